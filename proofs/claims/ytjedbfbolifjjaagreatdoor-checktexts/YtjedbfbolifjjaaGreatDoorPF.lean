/-
  The reference's vars: what a pattern binds.
  The reference's Bound: what is said of it, and the ways without a loop over clauses.
-/
import Derived.Test.YtjedbfbolifjjaaGreatDoorPC
import Derived.Test.YtjedbfbolifjjaaGreatDoorGQ
import Derived.Test.YtjedbfbolifjjaaGreatDoorKZ
set_option linter.unusedVariables false
set_option linter.unusedSimpArgs false
namespace Go.Proofs.YtjedbfbolifjjaaGreatDoor
open Go.RowKit Go.Maps
variable {W W' : World}
/-- What one part adds. -/
def vrS (b : List ByteArray) : Tr → List ByteArray
 | .mk k s _ _ _ => if k = 3 ∧ inL b s = false then b ++ [s] else b
def vrL (b : List ByteArray) (o : List Tr) : List ByteArray := o.foldl vrS b
theorem vrL_step {b : List ByteArray} {o : List Tr} {i : Nat} {U : Tr} (h : o[i]? = some U) : vrL b (o.take (i + 1)) = vrS (vrL b (o.take i)) U := by
 unfold vrL
 rw [List.take_add_one, h, List.foldl_append]; rfl
theorem vrS_len (b : List ByteArray) (U : Tr) : (vrS b U).length ≤ b.length + 1 := by
 obtain ⟨k, s, n, c, l⟩ := U
 show (if k = 3 ∧ inL b s = false then b ++ [s] else b).length ≤ _
 split <;> simp
theorem vrL_len (o : List Tr) : ∀ b, (vrL b o).length ≤ b.length + o.length := by
 induction o with
 | nil => intro b; exact Nat.le_refl _
 | cons U o ih =>
  intro b
  have h1 := vrS_len b U
  have h2 := ih (vrS b U)
  show (vrL (vrS b U) o).length ≤ _
  rw [List.length_cons]; omega
/-- The same names, but the blank one. -/
def Rl (L b : List ByteArray) : Prop := ∀ s : ByteArray, inL L s = (!(s.toList == [95]) && inL b s)
theorem Rl.put {L b : List ByteArray} (h : Rl L b) (U : Tr) : Rl (pst L U).2 (vrS b U) := by
 obtain ⟨k, s, n, c, l⟩ := U
 show Rl (if k = 3 then putL L s else L) (if k = 3 ∧ inL b s = false then b ++ [s] else b)
 by_cases hk : k = 3
 ·
  rw [if_pos hk]
  have hs := h s
  unfold putL newN
  cases q : (s.toList == [95]) with
  | true =>
   rw [q] at hs
   intro x
   have hx := h x
   rw [if_neg (by simp)]
   split
   · rw [inL_app, hx]
     by_cases e : s = x
     · subst e; rw [q]; rfl
     · simp [e]
   · exact hx
  | false =>
   rw [q] at hs
   simp only [Bool.not_false, Bool.true_and] at hs
   cases qb : inL b s with
   | true =>
    rw [qb] at hs
    rw [hs, if_neg (by simp), if_neg (by simp)]
    exact h
   | false =>
    rw [qb] at hs
    rw [hs, if_pos (by simp), if_pos ⟨hk, rfl⟩]
    intro x
    rw [inL_app, inL_app, h x]
    by_cases e : s = x
    · subst e; rw [q]; simp
    · simp [e]
 · rw [if_neg hk, if_neg (fun e => hk e.1)]
   exact h
theorem Rl.fp (o : List Tr) : ∀ {L b : List ByteArray}, Rl L b → Rl (fpL L o) (vrL b o) := by
 induction o with
 | nil => intro L b h; exact h
 | cons U o ih =>
  intro L b h
  have e : fpL L (U :: o) = fpL (pst L U).2 o := by
   unfold fpL
   have : goA pst L (U :: o) = goA pst (pst L U).2 o := by
    obtain ⟨k, s, n, c, l⟩ := U
    exact if_neg (by simp [pst])
   rw [this]
  rw [e]
  exact ih (h.put U)
theorem wpAnyL_two {P : Program} {ops : Array Oper} {Q : Exit → Act → World → Prop} {md : Region.Mode} {T : World → Prop} {L i j : Nat} {o o' : Oper} {f : Nat} {listed : Array Bool} {a : Act} {w : World} (hr : Region.ready md ops listed = [i, j]) (ho : ops[i]? = some o) (ho' : ops[j]? = some o')
 (h : ∀ K' : Act → World → Prop, Shut (∀ a w, (i ≠ L → T w) → wpAnyL P md ops Q T L f (listed.setIfInBounds i true) a w → K' a w) → if Region.wanted o (yielded ops a.tmps) = true then Oper.wp P o a w K' Q else K' (a.put o.dst undef) w)
 (h' : ∀ K' : Act → World → Prop, Shut (∀ a w, (j ≠ L → T w) → wpAnyL P md ops Q T L f (listed.setIfInBounds j true) a w → K' a w) → if Region.wanted o' (yielded ops a.tmps) = true then Oper.wp P o' a w K' Q else K' (a.put o'.dst undef) w) : wpAnyL P md ops Q T L (f + 1) listed a w := by
 refine ⟨fun h0 => (by rw [hr] at h0; cases h0), fun k hk => ?_⟩
 rw [hr] at hk
 rcases List.mem_cons.1 hk with rfl | hk
 · exact wpOp_step ho (fun K' hK => h K' (fun a w h1 h2 => hK a w ⟨h1, h2⟩))
 · rw [List.mem_singleton] at hk
   subst hk
   exact wpOp_step ho' (fun K' hK => h' K' (fun a w h1 h2 => hK a w ⟨h1, h2⟩))
/-- Names put behind a row of the call's own. -/
theorem nsb_run (w : World) (ty : TypeId) (base : Nat) (v : Value) (ns : List ByteArray) (N : Nat) (y : Value) (b : List ByteArray) (hv : Ns base w v ns) (hy : Nr N w y b) (hl : ns.length + b.length ≤ 40000) :
 ∃ v' w', (Builtin.append_ #[39, 39] ty #[v, y]).run Tryz.prog w = .ok v' w' ∧ Ns base w' v' (ns ++ b) ∧ Gr (fun k => base ≤ k) w w' ∧ (∀ z o, w.heap[z]? = some o → v.ownBlock ≠ some z → w'.heap[z]? = some o) := by
 obtain ⟨i0, hi, hz0, hz1, hz2⟩ := info_parts info9
 obtain ⟨a, c, rfl, hc, hk⟩ := hy
 by_cases hb : b = []
 ·
  subst hb
  refine ⟨v, w, ?_, by simpa using hv, Gr.refl _ _, fun z o h _ => h⟩
  have hown := hv.row
  obtain ⟨va, vc, rfl⟩ := hv.sv
  clear hv
  generalize ns.length = nn at hown ⊢
  rcases hown.2 with ⟨h1, h2⟩ | ⟨g, cap, cur, h1, _, _, hnc, _⟩
  · cases h1
    cases a <;> simp [Builtin.append_, run_underlying Tryz.underlying39, sizeOf, typeInfo, hi, Builtin.lenOf, Builtin.firstCells, loadCells, loadCellsFrom, hz1]
  · cases h1
    cases a <;> simp [Builtin.append_, run_underlying Tryz.underlying39, sizeOf, typeInfo, hi, Builtin.lenOf, Builtin.firstCells, hnc, storeCells, loadCells, loadCellsFrom, hz1]
 ·
  have hpos : 0 < b.length := List.length_pos_iff.2 hb
  obtain ⟨g, rfl, hg, _⟩ := hk 0 _ (List.getElem?_eq_getElem hpos)
  have hadd : ∀ j, (⟨g, 0, none⟩ : Addr).add j = ⟨g, j, none⟩ := fun j => by unfold Addr.add; split <;> simp_all
  obtain ⟨v', w', hr', hown', hgrow, _, hloc⟩ := run_append_own_at (P := Tryz.prog) w base 39 ty 9 i0 (.string ⟨#[]⟩) 1 16 Tryz.underlying39 hi hz0 hz1 hz2 rfl (by decide) v ns.length (ns.map Value.string) hv.row ⟨g, 0, none⟩ b.length c (b.map Value.string) (by simp) (fun j u hu => by
   rw [hadd]
   rw [List.getElem?_map] at hu
   cases hq : b[j]? with
   | none => rw [hq] at hu; cases hu
   | some x =>
    rw [hq] at hu
    cases hu
    obtain ⟨g2, e2, _, h3⟩ := hk j x hq
    cases e2
    exact h3) (fun u hu => by
   obtain ⟨x, _, rfl⟩ := List.mem_map.1 hu
   rfl) (by unfold maxLen; omega) (by omega) hv.bas
  have gr : Gr (fun k => base ≤ k) w w' := Gr.of_grown hgrow (fun k e => (ownsRow_lt hv.row k e).1)
  refine ⟨v', w', hr', ⟨by rw [List.length_append]; omega, ?_, Nat.le_trans hv.bas gr.size⟩, gr, fun z o h1 h2 => (hgrow.block z (Array.getElem?_eq_some_iff.1 h1).1 (fun e => h2 e.symm)).trans h1⟩
  rw [List.length_append, List.map_append]
  exact hown'
section
variable {w : World} {ops : Array Oper} {rest : List Oper} {o : Oper} {a : Act} {Q : Exit → Act → World → Prop} {K : Act → World → Prop} {E : Prop}
theorem step_nsb (hgd : o.guard = none) (x y : Operand)
 (ho : o.op = .call { callee := .builtin .append, args := #[x, y], argTypes := #[39, 39] }) (base : Nat) (v : Value) (ns : List ByteArray) (N : Nat) (z : Value) (b : List ByteArray) (hx : a.eval x = v) (hy : a.eval y = z)
 (hv : Ns base w v ns) (hs : Nr N w z b) (hl : ns.length + b.length ≤ 40000)
 (h : ∀ v' w', Ns base w' v' (ns ++ b) → Gr (fun k => base ≤ k) w w' → (∀ z o, w.heap[z]? = some o → v.ownBlock ≠ some z → w'.heap[z]? = some o) → K (a.put o.dst v') w') :
 if Region.wanted o (yielded ops a.tmps) = true then Oper.wp Tryz.prog o a w K Q else E := by
 have hw : Region.wanted o (yielded ops a.tmps) = true := by simp [Region.wanted, hgd]
 rw [if_pos hw]
 obtain ⟨v', w', hr, h1, h2, h3⟩ := nsb_run w o.type base v ns N z b hv hs hl
 unfold Oper.wp execOp
 simp only [ho, resolve, invoke, builtin, Sem.run_bind, Sem.run_pure, Result.andThen_ok, List.map_toArray, List.map_cons, List.map_nil, hx, hy, hr]
 exact h v' w' h1 h2 h3
end
theorem ns_empty {w : World} {base : Nat} (hb : base ≤ w.heap.size) : Ns base (w.alloc (.cells #[] 9)) (.slice (some ⟨w.heap.size, 0, none⟩) 0 0) [] := by
 refine ⟨by simp, ?_, by simp; omega⟩
 exact World.ownsRow_lit (base := base) (e := 9) (size := 1) w #[] 0 hb (by unfold maxLen; omega) rfl
abbrev SVr (g o : Nat) (s : ByteArray) (w : World) : Prop := w.cell? ⟨g, o + 1, none⟩ = some (.string s)
set_option maxRecDepth 100000 in
set_option maxHeartbeats 4000000 in
theorem rvars_c (N : Nat) (W : World) (vb : Value) (b : List ByteArray) (v : Value) (T : Tr) (hb : Nr N W vb b) (hN : N ≤ W.heap.size) (hR : RepG (fun z => z < N) W T v) (hl : (preL [T]).length ≤ 5000) (hbl : b.length ≤ 30000) :
 Calls Tryz.prog 61 #[vb, v] W fun e w' => ∃ v', e = .returned v' ∧ Nr w'.heap.size w' v' (vrL b (preL [T])) ∧ Gr (fun _ => False) W w' := by
 have ha := fun w (g : Gr (fun _ => False) W w) => allg_c T w W.heap.size _ 5000 (hR.turn (A' := fun k => k < W.heap.size) (fun z hz hl => ⟨hl, g.block z hl (fun e => e)⟩)) g.size (by decide) (by decide)
 rw [List.take_of_length_le hl] at ha
 generalize preL [T] = o at ha hl ⊢
 obtain ⟨tk, tt, tn, a1, n1, c1, a2, n2, c2, rfl⟩ := hR.agg
 have gB := Gr.alloc W (.cells #[.int .i64 tk, .string tt, .int .i64 tn, .slice a1 n1 c1, .slice a2 n2 c2] 25) (fun _ => False)
 have hlenI : (o.length : Int) ≤ 5000 := by omega
 replace hl := Lib.hid hl
 replace hbl := Lib.hid hbl
 replace ha := Lib.hid ha
 have hb0 : Nr W.heap.size W vb b := hb.up hN
 clear hR hb hN
 obtain ⟨ab, cb, rfl⟩ : ∃ a c, vb = .slice a b.length c := by obtain ⟨a, c, e, _⟩ := hb0; exact ⟨a, c, e⟩
 replace hb0 := Lib.hid hb0
 go_enter Tryz.func61, Tryz.ntmps61
 go_wp2_with fail
 generalize W.alloc _ = WB at gB ⊢
 refine (ha.out WB gB).mono ?_
 rintro e w1 ⟨v', us, rfl, hrow, hreps, g1⟩
 have G1 := gB.trans g1
 obtain ⟨oa, oc, rfl⟩ := ownsRow_sv hrow
 have hat := rowat_own hrow (hreps.turn (A' := fun k => k < w1.heap.size) (fun z hz hl => ⟨hl, rfl⟩))
 replace hat := Lib.hid hat
 clear hrow hreps
 have hst0 : Nr w1.heap.size w1 (.slice ab b.length cb) (vrL b (o.take 0)) := by
  rw [List.take_zero]
  exact (hb0.out.g0 G1).up G1.size
 go_wp2_with fail
 go_loopw [0, 6] (fun u0 u6 wr => ∃ i : Nat, i ≤ o.length ∧ u6 = .int .i64 (i : Int) ∧ Nr wr.heap.size wr u0 (vrL b (o.take i)) ∧ Gr (fun _ => False) w1 wr) (fun _ u6 _ => o.length - (intOf u6).toNat)
 case atStart => exact ⟨0, Nat.zero_le _, rfl, hst0, Gr.refl _ _⟩
 case round =>
  obtain ⟨i, hi, rfl, hNs, hG⟩ := hrel
  by_cases hlt : i < o.length
  ·
   have h1 : (i : Int) < (o.length : Int) := by omega
   have hTi : o[i]? = some o[i] := List.getElem?_eq_getElem hlt
   obtain ⟨g', o', rfl, hg', hTA⟩ := hat.out i _ hTi
   generalize o[i] = U at hTA hTi
   have hst := vrL_step (b := b) hTi
   obtain ⟨uk, us, un, ub, ul⟩ := U
   obtain ⟨ba', bc', la', lc', ⟨z0, z1, z2, z3, z4⟩, _, hgl'⟩ := (hTA.g0 hG hg').parts
   have hnl : Hid ((vrL b (o.take i)).length < 36000) := by
    have h5 := vrL_len (o.take i) b
    rw [List.length_take] at h5
    have := hl.out
    have := hbl.out
    show _ < _
    omega
   have hb := Lib.hid hi
   clear hTA hTi z2 z3 z4
   generalize hns : vrL b (o.take i) = ns at hNs hst hnl ⊢
   replace hns := Lib.hid hns
   have hsz := hG.size
   have hhas := rhas_c wr.heap.size wr _ ns us hNs (Nat.le_refl _) (by have := hnl.out; omega)
   replace hhas := Lib.hid hhas
   obtain ⟨na, nc, rfl⟩ : ∃ a c, _ = Value.slice a ns.length c := by obtain ⟨a, c, e, _⟩ := hNs; exact ⟨a, c, e⟩
   by_cases h3 : uk = 3
   case neg =>
    have q3 : (uk == 3) = false := by simpa using h3
    have hst2 : Hid (vrL b (o.take (i + 1)) = ns) := by
     show _ = _
     rw [hst]; exact if_neg (fun e => h3 e.1)
    clear h3 hst
    go_wp2_with fail
    exact ⟨⟨i + 1, hlt, by go_num, by rw [hst2.out]; exact hNs, hG⟩, by simp [intOf]; omega⟩
   have q3 : (uk == 3) = true := by simpa using h3
   cases qh : inL ns us with
   | true =>
    have hst2 : Hid (vrL b (o.take (i + 1)) = ns) := by
     show _ = _
     rw [hst]; exact if_neg (fun e => by rw [qh] at e; exact absurd e.2 (by decide))
    clear hst h3
    rw [qh] at hhas
    go_wp2_with fail
    refine hhas.out.mono ?_
    rintro e w4 ⟨rfl, rfl⟩
    go_wp2_with fail
    exact ⟨⟨i + 1, hlt, by go_num, by rw [hst2.out]; exact hNs, hG⟩, by simp [intOf]; omega⟩
   | false =>
    have hst2 : Hid (vrL b (o.take (i + 1)) = ns ++ [us]) := by
     show _ = _
     rw [hst]; exact if_pos ⟨h3, qh⟩
    clear hst h3
    rw [qh] at hhas
    go_wp2_with fail
    refine hhas.out.mono ?_
    rintro e w4 ⟨rfl, rfl⟩
    go_wp2_with fail
    have gd := Gr.drew w4 (fun _ => False)
    have TS : SVr g' (o' + i * 5) us w4.drew := cell_gr z1 gd (fun e => e)
    replace hNs := Lib.hid ((hNs.g0 gd).up gd.size)
    have hGd := Lib.hid (hG.trans gd)
    clear z0 z1 hhas
    refine wp_region_L (L := 100) (T := SVr g' (o' + i * 5) us) (by kernel_rfl) ?_
    generalize w4.drew = w0 at *
    refine wpAnyN_at (i := 1) (v := .slice na ns.length nc) (some 32) rfl rfl (by kernel_rfl) (by kernel_rfl) (by kernel_rfl) (by kernel_rfl) (fun _ _ _ h => h) (Or.inl ⟨by rfl, ?_⟩) TS ?_
    · intro w hSw
      go_simp
    try simp only [Act.put, sa1, sa2, sa3]
    refine wpAnyN_at (i := 3) (v := .slice (some ⟨g', o', none⟩) o.length oc) (some 34) rfl rfl (by kernel_rfl) (by kernel_rfl) (by kernel_rfl) (by kernel_rfl) (fun _ _ _ h => h) (Or.inl ⟨by rfl, ?_⟩) TS ?_
    · intro w hSw
      go_simp
    try simp only [Act.put, sa1, sa2, sa3]
    refine wpAnyN_at (i := 4) (v := .int .i64 (i : Int)) (some 35) rfl rfl (by kernel_rfl) (by kernel_rfl) (by kernel_rfl) (by kernel_rfl) (fun _ _ _ h => h) (Or.inl ⟨by rfl, ?_⟩) TS ?_
    · intro w hSw
      go_simp
    try simp only [Act.put, sa1, sa2, sa3]
    refine wpAnyN_at (i := 5) (v := ptr g' (o' + i * 5)) (some 36) rfl rfl (by kernel_rfl) (by kernel_rfl) (by kernel_rfl) (by kernel_rfl) (fun _ _ _ h => h) (Or.inl ⟨by rfl, ?_⟩) TS ?_
    · intro w hSw
      go_simp
    try simp only [Act.put, sa1, sa2, sa3]
    refine wpAnyN_at (i := 6) (v := ptr g' (o' + i * 5 + 1)) (some 37) rfl rfl (by kernel_rfl) (by kernel_rfl) (by kernel_rfl) (by kernel_rfl) (fun _ _ _ h => h) (Or.inl ⟨by rfl, ?_⟩) TS ?_
    · intro w hSw
      go_simp
    try simp only [Act.put, sa1, sa2, sa3]
    refine wpAnyN_at (i := 7) (v := .string us) (some 38) rfl rfl (by kernel_rfl) (by kernel_rfl) (by kernel_rfl) (by kernel_rfl) (fun _ _ _ h => h) (Or.inl ⟨by rfl, ?_⟩) TS ?_
    · intro w hSw
      go_simp
    try simp only [Act.put, sa1, sa2, sa3]
    have Gd0 : Gr (fun _ => False) w0 w0 := Gr.refl _ _
    obtain ⟨B, hB, hB2⟩ : ∃ B, B ≤ w0.heap.size ∧ w0.heap.size ≤ B := ⟨_, Nat.le_refl _, Nat.le_refl _⟩
    have hgl0 : g' < w0.heap.size := World.block_lt_of_cell? _ _ TS
    refine wpAnyL_two (i := 0) (j := 8) (by kernel_rfl) rfl rfl (fun K hK => ?_) (fun K hK => ?_)
    ·
     go_simp
     have gg := Gr.alloc w0 (.cells #[] 9) (fun _ => False)
     have RE : Ns B (w0.alloc (.cells #[] 9)) (.slice (some ⟨w0.heap.size, 0, none⟩) 0 0) [] := ns_empty (Nat.le_trans hB Gd0.size)
     have Gwx1 := Gd0.trans gg
     have TS : SVr g' (o' + i * 5) us (w0.alloc (.cells #[] 9)) := cell_gr TS gg (fun e => e)
     refine hK.out _ _ (fun _ => TS) ?_
     clear hK K gg
     have hzwx1 : Hid ((w0.alloc (.cells #[] 9)).heap.size = w0.heap.size + 1) := by show _ = _; simp
     obtain ⟨eb, heb⟩ : ∃ u, w0.heap.size = u := ⟨_, rfl⟩
     rw [heb] at RE ⊢
     generalize w0.alloc (.cells #[] 9) = wx1 at *
     try simp only [Act.put, sa1, sa2, sa3]
     refine wpAnyL_two (i := 2) (j := 8) (by kernel_rfl) rfl rfl (fun K hK => ?_) (fun K hK => ?_)
     ·
      refine step_nsb rfl _ _ rfl B (.slice (some ⟨eb, 0, none⟩) 0 0) [] w0.heap.size (.slice na ns.length nc) ns rfl rfl RE ((hNs.out).g0 Gwx1) (by have := hnl.out; simp; omega) ?_
      intro vR wx2 RE gg keep
      rw [List.nil_append] at RE
      have Gwx2 : Gr (fun _ => False) w0 wx2 := Gwx1.trans' gg (fun k hk e => by omega)
      have TS : SVr g' (o' + i * 5) us wx2 := cell_gr TS gg (by omega)
      obtain ⟨ra, rc, rfl⟩ := RE.sv
      refine hK.out _ _ (fun _ => TS) ?_
      clear hK K gg keep
      try simp only [Act.put, sa1, sa2, sa3]
      refine wpAnyL_one (i := 8) (by kernel_rfl) rfl (fun K hK => ?_)
      go_simp
      have gg := Gr.alloc wx2 (.cells #[.string us] 9) (fun _ => False)
      have Cwx3 := heap_alloc_new wx2 (.cells #[.string us] 9)
      have Gwx3 := Gwx2.trans gg
      have TS : SVr g' (o' + i * 5) us (wx2.alloc (.cells #[.string us] 9)) := cell_gr TS gg (fun e => e)
      have RE := RE.g0 gg
      refine hK.out _ _ (fun _ => TS) ?_
      clear hK K gg
      have hzwx3 : Hid ((wx2.alloc (.cells #[.string us] 9)).heap.size = wx2.heap.size + 1) := by show _ = _; simp
      obtain ⟨sb, hsb⟩ : ∃ u, wx2.heap.size = u := ⟨_, rfl⟩
      rw [hsb] at Cwx3 ⊢
      generalize wx2.alloc (.cells #[.string us] 9) = wx3 at *
      try simp only [Act.put, sa1, sa2, sa3]
      refine wpAnyL_one (i := 9) (by kernel_rfl) rfl (fun K hK => ?_)
      refine step_ns rfl _ _ rfl B (.slice ra ns.length rc) ns sb us rfl rfl RE (one_cell Cwx3).1 (by have := hnl.out; omega) ?_
      intro v5 w5 hN5 g5
      have G5 : Gr (fun _ => False) w0 w5 := Gwx3.trans' g5 (fun k hk e => by omega)
      have TS : SVr g' (o' + i * 5) us w5 := cell_gr TS g5 (by omega)
      obtain ⟨a5, c5, rfl⟩ := hN5.sv
      refine hK.out _ _ (fun _ => TS) ?_
      clear hK K
      try simp only [Act.put, sa1, sa2, sa3]
      refine wpAnyL_one (i := 10) (by kernel_rfl) rfl (fun K hK => ?_)
      go_simp
      refine hK.out _ _ (fun _ => TS) ?_
      clear hK K
      try simp only [Act.put, sa1, sa2, sa3]
      refine wpAnyL_done (by kernel_rfl) ?_ _
      refine NoPanic.normal ?_
      have hN6 := hN5.nr
      have hl5 : (ns ++ [us]).length = ns.length + 1 := by simp
      rw [hl5] at hN6
      have G6 := hGd.out.trans G5
      clear TS hN5 g5
      go_wp2_with fail
      exact ⟨⟨i + 1, hlt, by go_num, by rw [hst2.out]; exact hN6, G6⟩, by simp [intOf]; omega⟩
     ·
      go_simp
      have gg := Gr.alloc wx1 (.cells #[.string us] 9) (fun _ => False)
      have Cwx5 := heap_alloc_new wx1 (.cells #[.string us] 9)
      have Gwx5 := Gwx1.trans gg
      have TS : SVr g' (o' + i * 5) us (wx1.alloc (.cells #[.string us] 9)) := cell_gr TS gg (fun e => e)
      have RE := RE.g0 gg
      refine hK.out _ _ (fun _ => TS) ?_
      clear hK K gg
      have hzwx5 : Hid ((wx1.alloc (.cells #[.string us] 9)).heap.size = wx1.heap.size + 1) := by show _ = _; simp
      obtain ⟨sb, hsb⟩ : ∃ u, wx1.heap.size = u := ⟨_, rfl⟩
      rw [hsb] at Cwx5 ⊢
      generalize wx1.alloc (.cells #[.string us] 9) = wx5 at *
      try simp only [Act.put, sa1, sa2, sa3]
      refine wpAnyL_one (i := 2) (by kernel_rfl) rfl (fun K hK => ?_)
      refine step_nsb rfl _ _ rfl B (.slice (some ⟨eb, 0, none⟩) 0 0) [] w0.heap.size (.slice na ns.length nc) ns rfl rfl RE ((hNs.out).g0 Gwx5) (by have := hnl.out; simp; omega) ?_
      intro vR wx6 RE gg keep
      rw [List.nil_append] at RE
      have Gwx6 : Gr (fun _ => False) w0 wx6 := Gwx5.trans' gg (fun k hk e => by omega)
      have TS : SVr g' (o' + i * 5) us wx6 := cell_gr TS gg (by omega)
      have Cwx6 := keep _ _ Cwx5 (fun e => absurd (show eb = sb from (by simpa [Value.ownBlock] using e)) (by have a0 := hzwx1.out; have a1 := hzwx5.out; omega))
      obtain ⟨ra, rc, rfl⟩ := RE.sv
      refine hK.out _ _ (fun _ => TS) ?_
      clear hK K gg keep
      try simp only [Act.put, sa1, sa2, sa3]
      refine wpAnyL_one (i := 9) (by kernel_rfl) rfl (fun K hK => ?_)
      refine step_ns rfl _ _ rfl B (.slice ra ns.length rc) ns sb us rfl rfl RE (one_cell Cwx6).1 (by have := hnl.out; omega) ?_
      intro v5 w5 hN5 g5
      have G5 : Gr (fun _ => False) w0 w5 := Gwx6.trans' g5 (fun k hk e => by omega)
      have TS : SVr g' (o' + i * 5) us w5 := cell_gr TS g5 (by omega)
      obtain ⟨a5, c5, rfl⟩ := hN5.sv
      refine hK.out _ _ (fun _ => TS) ?_
      clear hK K
      try simp only [Act.put, sa1, sa2, sa3]
      refine wpAnyL_one (i := 10) (by kernel_rfl) rfl (fun K hK => ?_)
      go_simp
      refine hK.out _ _ (fun _ => TS) ?_
      clear hK K
      try simp only [Act.put, sa1, sa2, sa3]
      refine wpAnyL_done (by kernel_rfl) ?_ _
      refine NoPanic.normal ?_
      have hN6 := hN5.nr
      have hl5 : (ns ++ [us]).length = ns.length + 1 := by simp
      rw [hl5] at hN6
      have G6 := hGd.out.trans G5
      clear TS hN5 g5
      go_wp2_with fail
      exact ⟨⟨i + 1, hlt, by go_num, by rw [hst2.out]; exact hN6, G6⟩, by simp [intOf]; omega⟩
    ·
     go_simp
     have gg := Gr.alloc w0 (.cells #[.string us] 9) (fun _ => False)
     have Cwx8 := heap_alloc_new w0 (.cells #[.string us] 9)
     have Gwx8 := Gd0.trans gg
     have TS : SVr g' (o' + i * 5) us (w0.alloc (.cells #[.string us] 9)) := cell_gr TS gg (fun e => e)
     refine hK.out _ _ (fun _ => TS) ?_
     clear hK K gg
     have hzwx8 : Hid ((w0.alloc (.cells #[.string us] 9)).heap.size = w0.heap.size + 1) := by show _ = _; simp
     obtain ⟨sb, hsb⟩ : ∃ u, w0.heap.size = u := ⟨_, rfl⟩
     rw [hsb] at Cwx8 ⊢
     generalize w0.alloc (.cells #[.string us] 9) = wx8 at *
     try simp only [Act.put, sa1, sa2, sa3]
     refine wpAnyL_one (i := 0) (by kernel_rfl) rfl (fun K hK => ?_)
     go_simp
     have gg := Gr.alloc wx8 (.cells #[] 9) (fun _ => False)
     have RE : Ns B (wx8.alloc (.cells #[] 9)) (.slice (some ⟨wx8.heap.size, 0, none⟩) 0 0) [] := ns_empty (Nat.le_trans hB Gwx8.size)
     have Gwx9 := Gwx8.trans gg
     have TS : SVr g' (o' + i * 5) us (wx8.alloc (.cells #[] 9)) := cell_gr TS gg (fun e => e)
     have Cwx9 := gg.keep Cwx8 (fun e => e)
     refine hK.out _ _ (fun _ => TS) ?_
     clear hK K gg
     have hzwx9 : Hid ((wx8.alloc (.cells #[] 9)).heap.size = wx8.heap.size + 1) := by show _ = _; simp
     obtain ⟨eb, heb⟩ : ∃ u, wx8.heap.size = u := ⟨_, rfl⟩
     rw [heb] at RE ⊢
     generalize wx8.alloc (.cells #[] 9) = wx9 at *
     try simp only [Act.put, sa1, sa2, sa3]
     refine wpAnyL_one (i := 2) (by kernel_rfl) rfl (fun K hK => ?_)
     refine step_nsb rfl _ _ rfl B (.slice (some ⟨eb, 0, none⟩) 0 0) [] w0.heap.size (.slice na ns.length nc) ns rfl rfl RE ((hNs.out).g0 Gwx9) (by have := hnl.out; simp; omega) ?_
     intro vR wx10 RE gg keep
     rw [List.nil_append] at RE
     have Gwx10 : Gr (fun _ => False) w0 wx10 := Gwx9.trans' gg (fun k hk e => by omega)
     have TS : SVr g' (o' + i * 5) us wx10 := cell_gr TS gg (by omega)
     have Cwx10 := keep _ _ Cwx9 (fun e => absurd (show eb = sb from (by simpa [Value.ownBlock] using e)) (by have a0 := hzwx8.out; have a1 := hzwx9.out; omega))
     obtain ⟨ra, rc, rfl⟩ := RE.sv
     refine hK.out _ _ (fun _ => TS) ?_
     clear hK K gg keep
     try simp only [Act.put, sa1, sa2, sa3]
     refine wpAnyL_one (i := 9) (by kernel_rfl) rfl (fun K hK => ?_)
     refine step_ns rfl _ _ rfl B (.slice ra ns.length rc) ns sb us rfl rfl RE (one_cell Cwx10).1 (by have := hnl.out; omega) ?_
     intro v5 w5 hN5 g5
     have G5 : Gr (fun _ => False) w0 w5 := Gwx10.trans' g5 (fun k hk e => by omega)
     have TS : SVr g' (o' + i * 5) us w5 := cell_gr TS g5 (by omega)
     obtain ⟨a5, c5, rfl⟩ := hN5.sv
     refine hK.out _ _ (fun _ => TS) ?_
     clear hK K
     try simp only [Act.put, sa1, sa2, sa3]
     refine wpAnyL_one (i := 10) (by kernel_rfl) rfl (fun K hK => ?_)
     go_simp
     refine hK.out _ _ (fun _ => TS) ?_
     clear hK K
     try simp only [Act.put, sa1, sa2, sa3]
     refine wpAnyL_done (by kernel_rfl) ?_ _
     refine NoPanic.normal ?_
     have hN6 := hN5.nr
     have hl5 : (ns ++ [us]).length = ns.length + 1 := by simp
     rw [hl5] at hN6
     have G6 := hGd.out.trans G5
     clear TS hN5 g5
     go_wp2_with fail
     exact ⟨⟨i + 1, hlt, by go_num, by rw [hst2.out]; exact hN6, G6⟩, by simp [intOf]; omega⟩
  ·
   have h1 : decide ((i : Int) < (o.length : Int)) = false := by simp; omega
   obtain rfl : i = o.length := by omega
   rw [List.take_length] at hNs
   obtain ⟨na, nc, rfl⟩ : ∃ a c, _ = Value.slice a (vrL b o).length c := by obtain ⟨a, c, e, _⟩ := hNs; exact ⟨a, c, e⟩
   go_wp2_with fail
   go_ret
   exact ⟨_, rfl, hNs, G1.trans hG⟩
end Go.Proofs.YtjedbfbolifjjaaGreatDoor

namespace Go.Proofs.YtjedbfbolifjjaaGreatDoor
open Go.RowKit Go.Maps
variable {W W' : World}
def EdB (T : Tr) (b : List ByteArray) (W : World) (e : Ending) (w' : World) : Prop := ∃ v' b' ok, e = .returned (.tuple #[v', .bool ok]) ∧ Nr w'.heap.size w' v' b' ∧ b'.length ≤ b.length + (preL [T]).length ∧ (∀ f L, (preL [T]).length ≤ f → Rl L b → ok = !(lk f L T).1 ∧ (ok = true → Rl (lk f L T).2 b')) ∧ Gr (fun _ => False) W w'
theorem EdB.mk {T : Tr} {b : List ByteArray} {W : World} {e : Ending} {w' : World} (v' : Value) (b' : List ByteArray) (ok : Bool) (h1 : e = .returned (.tuple #[v', .bool ok])) (h2 : Nr w'.heap.size w' v' b') (h3 : b'.length ≤ b.length + (preL [T]).length) (h4 : ∀ f L, (preL [T]).length ≤ f → Rl L b → ok = !(lk f L T).1 ∧ (ok = true → Rl (lk f L T).2 b')) (h5 : Gr (fun _ => False) W w') : EdB T b W e w' := by
 unfold EdB
 exact ⟨v', b', ok, h1, h2, h3, h4, h5⟩
def BdR (T : Tr) : Prop := ∀ (N : Nat) (W : World) (vb v : Value) (b : List ByteArray), Nr N W vb b → N ≤ W.heap.size → RepG (fun z => z < N) W T v → b.length + (preL [T]).length ≤ 30000 → (preL [T]).length ≤ 4000 →
 Calls Tryz.prog 32 #[vb, v] W fun e w' => EdB T b W e w'
theorem Nr.sv {N : Nat} {v : Value} {b : List ByteArray} (h : Nr N W v b) : ∃ a c, v = .slice a b.length c := by obtain ⟨a, c, e, _⟩ := h; exact ⟨a, c, e⟩
theorem goA_one (step : Stp) (s : List ByteArray) (C : Tr) : goA step s [C] = step s C := by
 show (if (step s C).1 = true then (true, (step s C).2) else goA step (step s C).2 []) = _
 cases h : step s C with
 | mk x y => cases x <;> rfl
theorem goA_take {step : Stp} {L : List ByteArray} {l : List Tr} {i : Nat} {C : Tr} (h : l[i]? = some C) : goA step L (l.take (i + 1)) = if (goA step L (l.take i)).1 = true then (true, (goA step L (l.take i)).2) else step (goA step L (l.take i)).2 C := by
 rw [List.take_add_one, h, goA_app]
 show (if _ then _ else goA step _ [C]) = _
 rw [goA_one]
theorem pre_take {l : List Tr} {i : Nat} {C : Tr} (h : l[i]? = some C) : (preL (l.take (i + 1))).length = (preL (l.take i)).length + (preL [C]).length := by
 rw [List.take_add_one, h, preL_app, List.length_append]; rfl
theorem pre_take_le (l : List Tr) (i : Nat) : (preL (l.take i)).length ≤ (preL l).length := by
 conv => rhs; rw [← List.take_append_drop i l]
 rw [preL_app, List.length_append]; omega
theorem lk_other {f : Nat} {L : List ByteArray} {k : Int} {s : ByteArray} {n : Int} {b : List Int} {l : List Tr} (h3 : k ≠ 3) (h9 : k ≠ 9) (h15 : k ≠ 15) (h13 : ¬ (k = 13 ∧ aftV l = true)) : lk (f + 1) L (.mk k s n b l) = goA (lk f) L l := by
 conv => lhs; unfold lk
 rw [if_neg h3, if_neg h9, if_neg h15, if_neg h13]
set_option maxRecDepth 100000 in
set_option maxHeartbeats 1600000 in
theorem bd3 (s : ByteArray) (n : Int) (b : List Int) (l : List Tr) : BdR (.mk 3 s n b l) := by
 intro N W vb v bs hb hN hR hlen h4k
 obtain ⟨ba, bc, la, lc, rfl, hrow⟩ := rep_row hR
 have hbl : bs.length ≤ 30000 := by omega
 have hNr := hb.up hN
 obtain ⟨ab, cb, rfl⟩ := hb.sv
 have gA := Gr.alloc W (.cells #[.int .i64 3, .string s, .int .i64 n, .slice ba b.length bc, .slice la l.length lc] 25) (fun _ => False)
 obtain ⟨⟨m0, m1, m2, m3, m4⟩, _⟩ := five_cells (heap_alloc_new W (.cells #[.int .i64 3, .string s, .int .i64 n, .slice ba b.length bc, .slice la l.length lc] 25))
 have hhas := Lib.hid (fun w (gw : Gr (fun _ => False) W w) => rhas_c W.heap.size w _ bs s (hNr.g0 gw) gw.size (by omega))
 have hpost : Hid (∀ (w : World) (ok : Bool), Gr (fun _ => False) W w → ok = (!(s.toList == [95]) && inL bs s) → EdB (.mk 3 s n b l) bs W (.returned (.tuple #[.slice ab bs.length cb, .bool ok])) w) := by
  intro w ok gw hok
  refine EdB.mk _ bs ok rfl ((hNr.g0 gw).up gw.size) (by omega) (fun f L hf hL => ?_) gw
  cases f with
  | zero => rw [pre_mk] at hf; omega
  | succ f =>
   have e : lk (f + 1) L (.mk 3 s n b l) = (!inL L s, L) := by
    conv => lhs; unfold lk
    rw [if_pos rfl]
   rw [e, hok, hL s]
   exact ⟨by simp, fun _ => hL⟩
 clear hrow hR hb
 cases q9 : (s.toList == [95]) with
 | true =>
  have q10 : (s.toList != [95]) = false := by simpa using q9
  rw [q9] at hpost
  go_enter Tryz.func32, Tryz.ntmps32
  go_wp2_with fail
  go_ret2
  exact hpost.out _ _ gA rfl
 | false =>
  have q10 : (s.toList != [95]) = true := by simpa using q9
  rw [q9] at hpost
  go_enter Tryz.func32, Tryz.ntmps32
  go_wp2_with fail
  refine (hhas.out _ gA).mono ?_
  rintro e w4 ⟨rfl, rfl⟩
  go_wp2_with fail
  go_ret2
  exact hpost.out _ _ gA (by simp)
set_option maxRecDepth 100000 in
set_option maxHeartbeats 1600000 in
theorem bd9 (s : ByteArray) (n : Int) (b : List Int) (P X : Tr) (hX : BdR X) : BdR (.mk 9 s n b [P, X]) := by
 intro N W vb v bs hb hN hR hlen h4k
 rw [pre_mk, pre_cons2] at hlen h4k
 obtain ⟨ba, bc, la, lc, rfl, hrow⟩ := rep_row hR
 have hNr := hb.up hN
 obtain ⟨ab, cb, rfl⟩ := hb.sv
 have gA := Gr.alloc W (.cells #[.int .i64 9, .string s, .int .i64 n, .slice ba b.length bc, .slice la 2 lc] 25) (fun _ => False)
 obtain ⟨⟨m0, m1, m2, m3, m4⟩, _⟩ := five_cells (heap_alloc_new W (.cells #[.int .i64 9, .string s, .int .i64 n, .slice ba b.length bc, .slice la 2 lc] 25))
 obtain ⟨g', o', rfl, hg', hP⟩ := hrow 0 P rfl
 obtain ⟨g2', o2', e2, _, hX2⟩ := hrow 1 X rfl
 cases e2
 rw [Nat.zero_mul, Nat.add_zero] at hP
 rw [Nat.one_mul] at hX2
 rw [show [P, X].length = 2 from rfl]
 obtain ⟨vP, hRP, ⟨pk, ps, pn, pa1, pn1, pc1, pa2, pn2, pc2, rfl⟩, hcP⟩ := hP.val
 obtain ⟨vX, hRX, ⟨xk, xs, xn, xa1, xn1, xc1, xa2, xn2, xc2, rfl⟩, hcX⟩ := hX2.val
 have kX0 : W.cell? ⟨g', o' + 5, none⟩ = some (.int .i64 xk) := hcX 0 _ rfl
 have kX1 := hcX 1 _ rfl
 have kX2 := hcX 2 _ rfl
 have kX3 := hcX 3 _ rfl
 have kX4 := hcX 4 _ rfl
 have kP0 : W.cell? ⟨g', o', none⟩ = some (.int .i64 pk) := hcP 0 _ rfl
 have kP1 := hcP 1 _ rfl
 have kP2 := hcP 2 _ rfl
 have kP3 := hcP 3 _ rfl
 have kP4 := hcP 4 _ rfl
 have hgW : g' < W.heap.size := World.block_lt_of_cell? _ _ kP0
 obtain ⟨tb, htb⟩ : ∃ tb, W.heap.size = tb := ⟨_, rfl⟩
 rw [htb] at m0 m1 m2 m3 m4 hgW
 have hcallX := Lib.hid (fun w (gw : Gr (fun _ => False) W w) => hX w.heap.size w _ _ bs ((hNr.g0 gw).up gw.size) (Nat.le_refl _) (hRX.turn (fun z hz hl => ⟨by have := gw.size; omega, gw.block z hl (fun e => e)⟩)) (by omega) (by omega))
 have hcallP := Lib.hid (fun w (gw : Gr (fun _ => False) W w) vb' b' (hb' : Nr w.heap.size w vb' b') (hl' : b'.length ≤ 30000) => rvars_c w.heap.size w vb' b' _ P hb' (Nat.le_refl _) (hRP.turn (A' := fun z => z < w.heap.size) (fun z hz hl => ⟨by have := gw.size; omega, gw.block z hl (fun e => e)⟩)) (by omega) hl')
 have y0 := Lib.hid (And.intro kX0 (And.intro kX1 (And.intro kX2 (And.intro kX3 kX4))))
 have p0 := Lib.hid (And.intro kP0 (And.intro kP1 (And.intro kP2 (And.intro kP3 kP4))))
 have hgA := Lib.hid gA
 have hfin : Hid (∀ ok1 b1, (∀ f L, (preL [X]).length ≤ f → Rl L bs → ok1 = !(lk f L X).1 ∧ (ok1 = true → Rl (lk f L X).2 b1)) → ∀ f L, (preL [Tr.mk 9 s n b [P, X]]).length ≤ f → Rl L bs → ok1 = !(lk f L (.mk 9 s n b [P, X])).1 ∧ (ok1 = true → Rl (lk f L (.mk 9 s n b [P, X])).2 (vrL b1 (preL [P])))) := by
  intro ok1 b1 h f L hf hL
  rw [pre_mk, pre_cons2] at hf
  cases f with
  | zero => omega
  | succ f =>
   have e : lk (f + 1) L (.mk 9 s n b [P, X]) = ((lk f L X).1, putT (lk f L X).2 P) := by
    conv => lhs; unfold lk
    rw [if_neg (by decide), if_pos rfl]
   rw [e]
   obtain ⟨h1, h2⟩ := h f L (by omega) hL
   exact ⟨h1, fun hk => Rl.fp (preL [P]) (h2 hk)⟩
 have hlP : Hid ((preL [P]).length + (preL [X]).length + bs.length ≤ 29999) := by show _ ≤ _; omega
 have hpre : Hid ((preL [Tr.mk 9 s n b [P, X]]).length = (preL [P]).length + (preL [X]).length + 1) := by
  show _ = _
  rw [pre_mk, pre_cons2, preL_nil]; rfl
 clear hrow hR hb hP hX2 hcP hcX kX0 kX1 kX2 kX3 kX4 kP0 kP1 kP2 kP3 kP4 gA hlen hX
 go_enter Tryz.func32, Tryz.ntmps32
 obtain ⟨k0, k1, k2, k3, k4⟩ := y0.out
 have k0 := cell_gr k0 hgA.out (fun e => e)
 have k1 := cell_gr k1 hgA.out (fun e => e)
 have k2 := cell_gr k2 hgA.out (fun e => e)
 have k3 := cell_gr k3 hgA.out (fun e => e)
 have k4 := cell_gr k4 hgA.out (fun e => e)
 have hgW1 : g' < (W.alloc (.cells #[.int .i64 9, .string s, .int .i64 n, .slice ba b.length bc, .slice (some ⟨g', o', none⟩) 2 lc] 25)).heap.size := World.block_lt_of_cell? _ _ k0
 go_wp2_with fail
 replace htb := Lib.hid htb
 generalize W.alloc (.cells #[.int .i64 9, .string s, .int .i64 n, .slice ba b.length bc, .slice (some ⟨g', o', none⟩) 2 lc] 25) = W1 at hgA m4 k0 k1 k2 k3 k4 hgW1 m0 m1 m2 m3 ⊢
 refine (hcallX.out W1 hgA.out).mono ?_
 rintro e w1 ⟨v1, b1, ok1, rfl, hN1, hl1, hs1, g1⟩
 have G1 := hgA.out.trans g1
 have y4 := cell_gr m4 g1 (fun e => e)
 obtain ⟨j0, j1, j2, j3, j4⟩ := p0.out
 have j0 := cell_gr j0 G1 (fun e => e)
 have j1 := cell_gr j1 G1 (fun e => e)
 have j2 := cell_gr j2 G1 (fun e => e)
 have j3 := cell_gr j3 G1 (fun e => e)
 have j4 := cell_gr j4 G1 (fun e => e)
 have hgw1 : g' < w1.heap.size := World.block_lt_of_cell? _ _ j0
 have htw1 : tb < w1.heap.size := World.block_lt_of_cell? _ _ y4
 have hcp := Lib.hid (hcallP.out w1 G1 v1 b1 hN1 (by have := hlP.out; omega))
 have hs1' := Lib.hid (hfin.out ok1 b1 hs1)
 replace hl1 := Lib.hid hl1
 replace hG1 := Lib.hid G1
 obtain ⟨a1, c1, rfl⟩ := hN1.sv
 clear hs1 k0 k1 k2 k3 k4 hN1 m0 m1 m2 m3 m4 G1 g1 hgW1
 go_wp2_with fail
 refine hcp.out.mono ?_
 rintro e w2 ⟨v2, rfl, hN2, g2⟩
 obtain ⟨a2, c2, rfl⟩ := hN2.sv
 replace hN2 := Lib.hid hN2
 go_wp2_with fail
 go_ret2
 refine EdB.mk _ _ ok1 rfl hN2.out ?_ hs1'.out (hG1.out.trans g2)
 have h5 := vrL_len (preL [P]) b1
 have := hl1.out
 rw [hpre.out]; omega
set_option maxRecDepth 100000 in
set_option maxHeartbeats 1600000 in
theorem bdD (k : Int) (s : ByteArray) (n : Int) (b : List Int) (l : List Tr) (h3 : k ≠ 3) (h9 : k ≠ 9) (h12 : k ≠ 12) (h13 : k ≠ 13) (h15 : k ≠ 15) (ih : ∀ U ∈ l, BdR U) : BdR (.mk k s n b l) := by
 intro N W vb v bs hb hN hR hlen h4k
 rw [pre_mk] at hlen h4k
 obtain ⟨ba, bc, la, lc, rfl, hrow⟩ := rep_row hR
 have hNr := hb.up hN
 obtain ⟨ab, cb, rfl⟩ := hb.sv
 have hll := preL_len l
 have hlI : (l.length : Int) ≤ 30000 := by omega
 have gA := Gr.alloc W (.cells #[.int .i64 k, .string s, .int .i64 n, .slice ba b.length bc, .slice la l.length lc] 25) (fun _ => False)
 obtain ⟨⟨m0, m1, m2, m3, m4⟩, _⟩ := five_cells (heap_alloc_new W (.cells #[.int .i64 k, .string s, .int .i64 n, .slice ba b.length bc, .slice la l.length lc] 25))
 have hsz1 : (W.alloc (.cells #[.int .i64 k, .string s, .int .i64 n, .slice ba b.length bc, .slice la l.length lc] 25)).heap.size = W.heap.size + 1 := by simp
 have hst0 := Lib.hid ((hNr.g0 gA).up gA.size)
 obtain ⟨tb, htb⟩ : ∃ tb, W.heap.size = tb := ⟨_, rfl⟩
 rw [htb] at m0 m1 m2 m3 m4 hsz1 hN
 have q3 : (k == 3) = false := by simpa using h3
 have q9 : (k == 9) = false := by simpa using h9
 have q12 : (k == 12) = false := by simpa using h12
 have q13 : (k == 13) = false := by simpa using h13
 have hlk : Hid (∀ f L, lk (f + 1) L (.mk k s n b l) = goA (lk f) L l) := fun f L => lk_other h3 h9 h15 (fun e => h13 e.1)
 replace hrow := Lib.hid hrow
 replace ih := Lib.hid ih
 replace hlen := Lib.hid hlen
 replace h4k := Lib.hid h4k
 have hgA := Lib.hid gA
 have hm4 := Lib.hid m4
 have hs1 := Lib.hid hsz1
 have htake : Hid (∀ i U, l[i]? = some U → (preL (l.take (i + 1))).length = (preL (l.take i)).length + (preL [U]).length) := fun i U h => pre_take h
 have htle : Hid (∀ i, (preL (l.take i)).length ≤ (preL l).length) := fun i => pre_take_le l i
 clear hsz1 gA m1 m2 m3 hR hb h3 h9 h12 h13 h15 hll
 go_enter Tryz.func32, Tryz.ntmps32
 go_wp2_with fail
 replace htb := Lib.hid htb
 generalize W.alloc (.cells #[.int .i64 k, .string s, .int .i64 n, .slice ba b.length bc, .slice la l.length lc] 25) = W1 at hgA hm4 hs1 hst0 m4 m0 ⊢
 clear m4 m0
 go_loopw [0, 16, 17, 18, 19] (fun u0 u16 u17 u18 u19 wr => ∃ (i : Nat) (bI : List ByteArray) (okI : Bool), i ≤ l.length ∧ u17 = .int .i64 (i : Int) ∧ u16 = .bool okI ∧ Nr wr.heap.size wr u0 bI ∧ Hid (bI.length ≤ bs.length + (preL (l.take i)).length) ∧ Hid (∀ f L, (preL l).length ≤ f → Rl L bs → okI = !(goA (lk f) L (l.take i)).1 ∧ (okI = true → Rl (goA (lk f) L (l.take i)).2 bI)) ∧ Gr (fun _ => False) W1 wr) (fun _ _ u17 _ _ _ => l.length - (intOf u17).toNat)
 case atStart => exact ⟨0, bs, true, Nat.zero_le _, rfl, rfl, hst0.out, Nat.le_add_right _ _, (fun f L _ hL => ⟨rfl, fun _ => hL⟩), Gr.refl _ _⟩
 case round =>
  obtain ⟨i, bI, okI, hi, rfl, rfl, hNI, hLI, hSI, hG⟩ := hrel
  have y4 := cell_gr hm4.out hG (fun e => e)
  have hs2 := hG.size
  have htl : tb < wr.heap.size := by have := hs1.out; omega
  by_cases hlt : i < l.length
  ·
   have hd : decide ((i : Int) < (l.length : Int)) = true := by simp; omega
   have hiI : (i : Int) < (l.length : Int) := by omega
   have hTi : l[i]? = some l[i] := List.getElem?_eq_getElem hlt
   obtain ⟨g', o', rfl, hg', hTA⟩ := hrow.out i _ hTi
   have hih := ih.out l[i] (List.getElem_mem hlt)
   have htk := htake.out i _ hTi
   have htl2 := htle.out (i + 1)
   have hgt := fun f L => goA_take (step := lk f) (L := L) hTi
   generalize l[i] = U at hih hTA htk hgt
   obtain ⟨v', hRv, ⟨tk, tt, tn, a1, n1, c1, a2, n2, c2, rfl⟩, hcl⟩ := (hTA.g0 (hgA.out.trans hG) hg').val
   have k0 : wr.cell? ⟨g', o' + i * 5, none⟩ = some (.int .i64 tk) := hcl 0 _ rfl
   have k1 := hcl 1 _ rfl
   have k2 := hcl 2 _ rfl
   have k3 := hcl 3 _ rfl
   have k4 := hcl 4 _ rfl
   have hgw : g' < wr.heap.size := World.block_lt_of_cell? _ _ k0
   have hcall := hih wr.heap.size wr _ _ bI hNI (Nat.le_refl _) (hRv.turn (fun z hz hl => ⟨hl, rfl⟩)) (by have := hLI.out; have := hlen.out; omega) (by have := h4k.out; omega)
   replace hcall := Lib.hid hcall
   have hb := Lib.hid hi
   have hstep : Hid (∀ (ok : Bool) b', (∀ f L, (preL [U]).length ≤ f → Rl L bI → ok = !(lk f L U).1 ∧ (ok = true → Rl (lk f L U).2 b')) → ∀ f L, (preL l).length ≤ f → Rl L bs → (okI && ok) = !(goA (lk f) L (l.take (i + 1))).1 ∧ ((okI && ok) = true → Rl (goA (lk f) L (l.take (i + 1))).2 b')) := by
    intro ok b' h f L hf hL
    obtain ⟨h1, h2⟩ := hSI.out f L hf hL
    rw [hgt f L]
    cases hq : (goA (lk f) L (l.take i)).1 with
    | true => rw [hq] at h1; rw [h1]; exact ⟨rfl, fun e => by cases e⟩
    | false =>
     rw [hq] at h1
     have h1' : okI = true := h1
     obtain ⟨h3, h4⟩ := h f (goA (lk f) L (l.take i)).2 (by omega) (h2 h1')
     rw [if_neg (by decide), h1', Bool.true_and]
     exact ⟨h3, h4⟩
   have hlen2 : Hid (∀ m : Nat, m ≤ bI.length + (preL [U]).length → m ≤ bs.length + (preL (l.take (i + 1))).length) := fun m hm => by have := hLI.out; omega
   obtain ⟨aI, cI, rfl⟩ := hNI.sv
   clear hTA hTi hih hRv hcl htk htl2 hgt hNI hLI hSI
   go_wp2_with fail
   refine hcall.out.mono ?_
   rintro e w4 ⟨v4, b4, ok4, rfl, hN4, hl4, hs4, g4⟩
   have h7 := Lib.hid (hstep.out ok4 b4 hs4)
   have h8 := Lib.hid (hlen2.out _ hl4)
   obtain ⟨a4, c4, rfl⟩ := hN4.sv
   clear hs4 hl4
   cases okI
   all_goals
    go_wp2_with fail
    exact ⟨⟨i + 1, b4, _, hlt, by go_num, rfl, hN4, h8.out, by first | exact h7 | simpa using h7, hG.trans g4⟩, by simp [intOf]; omega⟩
  ·
   have hd : decide ((i : Int) < (l.length : Int)) = false := by simp; omega
   have hie : i = l.length := by omega
   have hfin : Hid (bI.length ≤ bs.length + (preL [Tr.mk k s n b l]).length ∧ ∀ f L, (preL [Tr.mk k s n b l]).length ≤ f → Rl L bs → okI = !(lk f L (.mk k s n b l)).1 ∧ (okI = true → Rl (lk f L (.mk k s n b l)).2 bI)) := by
    have h1 := hSI.out
    have h2 := hLI.out
    rw [hie, List.take_length] at h1 h2
    refine ⟨by rw [pre_mk]; omega, fun f L hf hL => ?_⟩
    rw [pre_mk] at hf
    cases f with
    | zero => omega
    | succ f => rw [hlk.out]; exact h1 f L (by omega) hL
   obtain ⟨aI, cI, rfl⟩ := hNI.sv
   clear hie hSI hLI
   go_wp2_with fail
   go_ret2
   exact EdB.mk _ bI okI rfl hNI hfin.out.1 hfin.out.2 (hgA.out.trans hG)
end Go.Proofs.YtjedbfbolifjjaaGreatDoor
