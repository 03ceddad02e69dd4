/-
  The walk of GramFuns.
-/
import Derived.Test.YtbmbgnmkakkpfaaDoorHJ
import Derived.Test.YtbmbgnmkakkpfaaDoorHH
import Derived.Test.YtbmbgnmkakkpfaaDoorHA
import Derived.Laws.Concat
import Derived.Deep.RegionHeld3
import Derived.Test.YtbmbgnmkakkpfaaDoorGU
set_option linter.unusedVariables false
set_option linter.unusedSimpArgs false
namespace Go.Proofs.YtbmbgnmkakkpfaaDoor
open Go.RowKit Go.Maps
variable {W W' : World}
theorem text_ne {s : ByteArray} {i : Nat} {c : Int} (h : textV s = .error (i, c)) : c ≠ 0 := by
  unfold textV at h
  cases hv : scanV s with
  | error p =>
    obtain ⟨j, c'⟩ := p
    rw [hv] at h
    cases h
    exact scanV_err hv
  | ok l =>
    rw [hv] at h
    have h' : parseV (l.map tnOf) = .error (i, c) := h
    unfold parseV at h'
    split at h'
    · rename_i hne; cases h'; exact hne
    · cases h'
/-- What parse tells of a text. -/
def Told (W : World) (s : ByteArray) (w' : World) (v : Value) (c : Int) : Prop := c = 0 → ∃ T, textV s = .ok T ∧ Rep (fun z => W.heap.size ≤ z) w' T v
theorem text_u (W : World) (s : ByteArray) (hE : Er W) (hS : Sg W) (hL : Lv W) : Calls Tryd.prog 15 #[.string s] W fun e w' => ∃ tk tt tn a1 n1 c1 a2 n2 c2, ∃ i c : Int, e = .returned (.tuple #[trv tk tt tn (.slice a1 n1 c1) (.slice a2 n2 c2), .int .i64 i, .int .i64 c]) ∧ Told W s w' (trv tk tt tn (.slice a1 n1 c1) (.slice a2 n2 c2)) c ∧ Gr (fun _ => False) W w' := by
  refine (text_c W s hE hS hL).mono ?_
  intro e w' h
  cases hv : textV s with
  | ok T =>
    rw [hv] at h
    obtain ⟨v, rfl, rep, g⟩ := h
    obtain ⟨tk, tt, tn, a1, n1, c1, a2, n2, c2, rfl⟩ := rep.agg
    exact ⟨tk, tt, tn, a1, n1, c1, a2, n2, c2, 0, 0, rfl, fun _ => ⟨T, hv, rep⟩, g⟩
  | error p =>
    obtain ⟨i, c⟩ := p
    rw [hv] at h
    obtain ⟨rfl, g⟩ := h
    exact ⟨0, e0, 0, none, 0, 0, none, 0, 0, i, c, rfl, fun hc => absurd hc (text_ne hv), g⟩
theorem progL_len {ts : List Tn} {ex : Rule} : ∀ (f : Nat) (l : List Tr) (p : Ps), (progL ts ex f l p).1.length ≤ l.length + f
  | 0, l, p => Nat.le_refl _
  | f + 1, l, p => by
    rw [progL]
    split
    · have := progL_len (ts := ts) (ex := ex) f (l ++ [(funV ts ex p).1]) (funV ts ex p).2
      rw [List.length_append, List.length_singleton] at this
      omega
    · exact Nat.le_add_right _ _
theorem text_len {s : ByteArray} {l : List Tr} (h : textV s = .ok (.mk 18 e0 0 [] l)) : l.length ≤ 8001 := by
  obtain ⟨x, hx, hp⟩ := text_ok h
  have e := (parse_ok hp).1
  injection e with _ _ _ _ e5
  rw [e5]
  have h1 := progL_len (ts := x.map tnOf) (ex := (exun (x.map tnOf) 41).1) (2 * (x.map tnOf).length + 1) [] ⟨0, 0, 0⟩
  have h2 := scanV_len hx
  rw [List.length_map, List.length_nil] at h1
  unfold progV
  rw [List.length_map]
  omega
theorem row_empty {w0 : World} {base : Nat} (h : base ≤ w0.heap.size) : (w0.alloc (.cells #[] 25)).ownsRow base 25 5 (.slice (some ⟨w0.heap.size, 0, none⟩) 0 0) 0 [] := by
  simpa using World.ownsRow_lit (base := base) (e := 25) (size := 5) w0 #[] 0 h (by unfold maxLen; omega) rfl
/-- The parts of a tree that was told, in a later world. -/
theorem told_row {N base : Nat} {w w' : World} {k : Int} {s : ByteArray} {n : Int} {bv : Value} {a2 : Option Addr} {n2 c2 : Nat} {l : List Tr} (h : Rep (fun z => N ≤ z) w (.mk 18 e0 0 [] l) (trv k s n bv (.slice a2 n2 c2))) (hb : w.heap.size ≤ base) (hg : ∀ z, z < w.heap.size → w'.heap[z]? = w.heap[z]?) :
    n2 = l.length ∧ ∃ vs, RowT (fun z => z < base) w' vs l.length (.slice a2 n2 c2) ∧ Reps (fun z => z < base) w' l vs := by
  obtain ⟨bv', lv, vs, e, h1, h2, h3⟩ := h
  simp only [trv, Value.agg.injEq, Array.mk.injEq, List.cons.injEq, and_true] at e
  obtain ⟨_, _, _, _, rfl⟩ := e
  have hT : Turn (fun z => N ≤ z) (fun z => z < base) w w' := fun z _ hl => ⟨by omega, hg z hl⟩
  refine ⟨?_, vs, h2.turn hT, Reps.turn hT h3⟩
  rcases h2 with ⟨h0, a, c, e⟩ | ⟨g, cap, cur, e, _⟩
  · cases e; exact h0.symm
  · cases e; rfl
theorem wpAnyL_two {P : Program} {ops : Array Oper} {Q : Exit → Act → World → Prop} {md : Region.Mode} {T : World → Prop} {L i j : Nat} {o o' : Oper} {f : Nat} {listed : Array Bool} {a : Act} {w : World} (hr : Region.ready md ops listed = [i, j]) (ho : ops[i]? = some o) (ho' : ops[j]? = some o')
    (h : ∀ K' : Act → World → Prop, Shut (∀ a w, (i ≠ L → T w) → wpAnyL P md ops Q T L f (listed.setIfInBounds i true) a w → K' a w) → if Region.wanted o (yielded ops a.tmps) = true then Oper.wp P o a w K' Q else K' (a.put o.dst undef) w)
    (h' : ∀ K' : Act → World → Prop, Shut (∀ a w, (j ≠ L → T w) → wpAnyL P md ops Q T L f (listed.setIfInBounds j true) a w → K' a w) → if Region.wanted o' (yielded ops a.tmps) = true then Oper.wp P o' a w K' Q else K' (a.put o'.dst undef) w) : wpAnyL P md ops Q T L (f + 1) listed a w := by
  refine ⟨fun h0 => (by rw [hr] at h0; cases h0), fun k hk => ?_⟩
  rw [hr] at hk
  rcases List.mem_cons.1 hk with rfl | hk
  · exact wpOp_step ho (fun K' hK => h K' (fun a w h1 h2 => hK a w ⟨h1, h2⟩))
  · rw [List.mem_singleton] at hk
    subst hk
    exact wpOp_step ho' (fun K' hK => h' K' (fun a w h1 h2 => hK a w ⟨h1, h2⟩))
/-- The two rows that are read. -/
abbrev S2 (tb ub : Nat) (x y : Value) (w : World) : Prop := w.cell? ⟨tb, 4, none⟩ = some x ∧ w.cell? ⟨ub, 4, none⟩ = some y
theorem funs_fin {w7 w : World} {zb : Nat} {v : Value} {l1 l2 : List Tr} {vs1 vs2 : List Value} (G : Gr (fun k => w7.heap.size ≤ k) w7 w) (row : w.ownsRow w7.heap.size 25 5 v (l1.length + l2.length) ([] ++ vs1.flatMap cellsOf ++ vs2.flatMap cellsOf)) (p1 : Reps (fun z => z < w7.heap.size) w l1 vs1) (p2 : Reps (fun z => z < w7.heap.size) w l2 vs2)
    (hz : w.heap[zb]? = some (.cells zc 25 (0, 0))) (hne : v.ownBlock ≠ some zb) (hzn : w7.heap.size ≤ zb) :
    Gr (fun k => w7.heap.size ≤ k) w7 (set5 w zb (.int .i64 18) (.string e0) (.int .i64 0) nl v) ∧ Rep (fun k => k < (set5 w zb (.int .i64 18) (.string e0) (.int .i64 0) nl v).heap.size) (set5 w zb (.int .i64 18) (.string e0) (.int .i64 0) nl v) (.mk 18 e0 0 [] (l1 ++ l2)) (trv 18 e0 0 nl v) ∧
      (set5 w zb (.int .i64 18) (.string e0) (.int .i64 0) nl v).heap[zb]? = some (.cells #[.int .i64 18, .string e0, .int .i64 0, nl, v] 25 (0, 0)) := by
  have gs := set5_gr w zb (.int .i64 18) (.string e0) (.int .i64 0) nl v
  have hf := set5_heap hz (.int .i64 18) (.string e0) (.int .i64 0) nl v
  have hss := gs.size
  generalize set5 w zb (.int .i64 18) (.string e0) (.int .i64 0) nl v = wF at *
  have hGs := G.size
  refine ⟨G.trans' gs (fun k _ e => by omega), ?_, hf⟩
  have e1 : [] ++ vs1.flatMap cellsOf ++ vs2.flatMap cellsOf = (vs1 ++ vs2).flatMap cellsOf := by rw [List.nil_append, List.flatMap_append]
  have e2 : l1.length + l2.length = (l1 ++ l2).length := by rw [List.length_append]
  rw [e1, e2] at row
  refine ⟨nl, v, vs1 ++ vs2, rfl, .inl ⟨rfl, _, _, rfl⟩, ?_, ?_⟩
  · rcases row.2 with ⟨rfl, h0⟩ | ⟨g, cap, cur, rfl, hg, h2, h3, _, _, h6⟩
    · exact .inl ⟨h0, _, _, rfl⟩
    · have hgz : g ≠ zb := fun e => hne (by rw [e]; rfl)
      have hgl := (Array.getElem?_eq_some_iff.1 h2).1
      exact .inr ⟨g, cap, cur, rfl, by omega, gs.keep h2 hgz, h3, h6⟩
  · have hT : Turn (fun z => z < w7.heap.size) (fun k => k < wF.heap.size) w wF := fun z hz hl => ⟨by omega, gs.block z hl (by omega)⟩
    exact Reps.app (p2.turn hT) (p1.turn hT)
section
variable {ops : Array Oper} {o : Oper} {a : Act} {w : World} {K : Act → World → Prop} {Q : Exit → Act → World → Prop} {E : Prop}
/-- A row of trees put behind one of the call's own, as one step of a region that draws. -/
theorem step_tt (hgd : o.guard = none) (x y : Operand) (ho : o.op = .call { callee := .builtin .append, args := #[x, y], argTypes := #[23, 23] }) (base : Nat) (v : Value) (n : Nat) (xs : List Value) (A : Nat → Prop) (l : List Tr) (vs : List Value) (yv : Value) (hx : a.eval x = v) (hy : a.eval y = yv)
    (hv : w.ownsRow base 25 5 v n xs) (hr : RowT A w vs l.length yv) (hp : Reps A w l vs) (hl : n + l.length ≤ 100000) (hb : base ≤ w.heap.size)
    (h : ∀ v' w', w'.ownsRow base 25 5 v' (n + l.length) (xs ++ vs.flatMap cellsOf) → Gr (fun k => base ≤ k) w w' → (∀ z o, w.heap[z]? = some o → v.ownBlock ≠ some z → w'.heap[z]? = some o ∧ v'.ownBlock ≠ some z) → K (a.put o.dst v') w') :
    if Region.wanted o (yielded ops a.tmps) = true then Oper.wp Tryd.prog o a w K Q else E := by
  have hw : Region.wanted o (yielded ops a.tmps) = true := by simp [Region.wanted, hgd]
  rw [if_pos hw]
  obtain ⟨v', w', hr', h1, h2, h3⟩ := app_run w o.type base v n xs hv A l vs yv hr hp hl hb
  unfold Oper.wp execOp
  simp only [ho, resolve, invoke, builtin, Sem.run_bind, Sem.run_pure, Result.andThen_ok, List.map_toArray, List.map_cons, List.map_nil, hx, hy, hr']
  exact h v' w' h1 h2 h3
end
set_option maxRecDepth 100000 in
set_option maxHeartbeats 1600000 in
theorem funs_c (W : World) (a b : ByteArray) (hma : a.size ≤ maxLen) (hmb : b.size ≤ maxLen) (hE : Er W) (hS : Sg W) (hL : Lv W) : Calls Tryd.prog 6 #[.string a, .string b] W fun e w' => e = .returned (.bool true) ∧ Gr (fun _ => False) W w' := by
  have hal := alive_c W hE hS hL
  have htx := fun s w (g : Gr (fun _ => False) W w) => text_u w s (hE.gr g (fun e => e)) (hS.gr g (fun e => e)) (hL.gr g (fun e => e) (fun e => e))
  have htc := fun s w (g : Gr (fun _ => False) W w) => text_c w s (hE.gr g (fun e => e)) (hS.gr g (fun e => e)) (hL.gr g (fun e => e) (fun e => e))
  replace htx := Lib.hid htx
  replace htc := Lib.hid htc
  replace hma := Lib.hid hma
  replace hmb := Lib.hid hmb
  go_enter Tryd.func6, Tryd.ntmps6
  go_wp2_with fail
  refine hal.mono ?_
  rintro e w1 ⟨rfl, g1⟩
  clear hal
  go_wp2_with fail
  refine (htx.out a w1 g1).mono ?_
  rintro e w2 ⟨tk, tt, tn, a1, n1, c1, a2, n2, c2, i, c, rfl, T1, g2⟩
  have gA := Gr.alloc w2 (.cells #[.int .i64 tk, .string tt, .int .i64 tn, .slice a1 n1 c1, .slice a2 n2 c2] 25) (fun _ => False)
  have hA := heap_alloc_new w2 (.cells #[.int .i64 tk, .string tt, .int .i64 tn, .slice a1 n1 c1, .slice a2 n2 c2] 25)
  go_wp2_with fail
  generalize w2.alloc _ = w3 at gA hA ⊢
  obtain ⟨tb, htb⟩ : ∃ tb, w2.heap.size = tb := ⟨_, rfl⟩
  rw [htb] at hA ⊢
  have G3 := (g1.trans g2).trans gA
  refine (htx.out b w3 G3).mono ?_
  rintro e w4 ⟨uk, ut, un, b1, m1, d1, b2, m2, d2, i', c', rfl, T2, g4⟩
  have gB := Gr.alloc w4 (.cells #[.int .i64 uk, .string ut, .int .i64 un, .slice b1 m1 d1, .slice b2 m2 d2] 25) (fun _ => False)
  have hB := heap_alloc_new w4 (.cells #[.int .i64 uk, .string ut, .int .i64 un, .slice b1 m1 d1, .slice b2 m2 d2] 25)
  have hA4 := g4.keep hA (fun e => e)
  have htw : tb < w4.heap.size := (Array.getElem?_eq_some_iff.1 hA4).1
  have G5 := (G3.trans g4).trans gB
  by_cases hc : c = 0
  case neg =>
    have q : (c != 0) = true := by rw [bne_iff_ne]; exact hc
    replace G5 := Lib.hid G5
    go_wp2_with fail
    go_ret
    exact ⟨rfl, G5.out⟩
  have q : (c != 0) = false := by simp [hc]
  by_cases hc' : c' = 0
  case neg =>
    have q' : (c' != 0) = true := by rw [bne_iff_ne]; exact hc'
    replace hc := Lib.hid hc
    replace G5 := Lib.hid G5
    go_wp2_with fail
    go_ret
    exact ⟨rfl, G5.out⟩
  have q' : (c' != 0) = false := by simp [hc']
  obtain ⟨T, hT, repT⟩ := T1 hc
  obtain ⟨U, hU, repU⟩ := T2 hc'
  have hza : Hid (a.size ≤ 16384) := by
    obtain ⟨l, hl, _⟩ := text_ok hT
    exact (scanV_at hl).1
  have hzb : Hid (b.size ≤ 16384) := by
    obtain ⟨l, hl, _⟩ := text_ok hU
    exact (scanV_at hl).1
  have hzaI : (a.size : Int) ≤ 16384 := by have := hza.out; omega
  have hzbI : (b.size : Int) ≤ 16384 := by have := hzb.out; omega
  have hw : IntKind.i64.wrap ((a.size : Int) + (b.size : Int)) = (a.size : Int) + (b.size : Int) := by rw [IntKind.wrap_i64]; omega
  replace hc := Lib.hid hc
  replace hc' := Lib.hid hc'
  clear T1 T2
  by_cases hbig : 16384 ≤ a.size + b.size
  · have hbI : decide ((16384 : Int) ≤ (a.size : Int) + (b.size : Int)) = true := by simp; omega
    replace G5 := Lib.hid G5
    clear repT repU hT hU
    go_wp2_with fail
    go_ret
    exact ⟨rfl, G5.out⟩
  have hbI : decide ((16384 : Int) ≤ (a.size : Int) + (b.size : Int)) = false := by simp; omega
  have hjoin := Lib.hid (text_join hT hU (by omega))
  have hlT := Lib.hid (fun l (e : T = .mk 18 e0 0 [] l) => text_len (e ▸ hT))
  have hlU := Lib.hid (fun l (e : U = .mk 18 e0 0 [] l) => text_len (e ▸ hU))
  have cc1 : a.size + 1 ≤ 9223372036854775807 := by have := hza.out; omega
  have cc2 : (a ++ ⟨#[10]⟩).size + b.size ≤ 9223372036854775807 := by
    rw [ByteArray.size_append]
    have : (⟨#[10]⟩ : ByteArray).size = 1 := rfl
    have := hza.out; have := hzb.out; omega
  clear hT hU
  go_wp2_with fail
  generalize w4.alloc _ = w5 at gB hB G5 ⊢
  obtain ⟨ub, hub⟩ : ∃ ub, w4.heap.size = ub := ⟨_, rfl⟩
  rw [hub] at hB ⊢
  have hcall := htc.out (a ++ ⟨#[10]⟩ ++ b) w5 G5
  rcases hjoin.out with hj | ⟨l1, l2, rfl, rfl, hj⟩
  · rw [hj] at hcall
    replace hcall := Lib.hid hcall
    replace hj := Lib.hid hj
    replace G5 := Lib.hid G5
    clear hjoin
    generalize a ++ ⟨#[10]⟩ ++ b = cat at hcall hj ⊢
    refine hcall.out.mono ?_
    rintro e w6 ⟨rfl, g6⟩
    go_wp2_with fail
    go_ret
    exact ⟨rfl, (G5.out.trans g6).trans (Gr.alloc _ _ _)⟩
  rw [hj] at hcall
  have hA5 := gB.keep hA4 (fun e => e)
  have hG45 := gB.trans (Gr.refl (fun _ => False) w5)
  refine hcall.mono ?_
  rintro e w6 ⟨v, rfl, rep6, g6⟩
  obtain ⟨vk, vt, vn, e1, o1, f1, e2, o2, f2, rfl⟩ := rep6.agg
  have gC := Gr.alloc w6 (.cells #[.int .i64 vk, .string vt, .int .i64 vn, .slice e1 o1 f1, .slice e2 o2 f2] 25) (fun _ => False)
  have hC := heap_alloc_new w6 (.cells #[.int .i64 vk, .string vt, .int .i64 vn, .slice e1 o1 f1, .slice e2 o2 f2] 25)
  clear hcall hjoin hj htx htc
  replace G5 := Lib.hid G5
  go_wp2_with fail
  generalize w6.alloc _ = w7 at gC hC ⊢
  obtain ⟨vb, hvb⟩ : ∃ vb, w6.heap.size = vb := ⟨_, rfl⟩
  rw [hvb] at hC ⊢
  have zl1 := hlT.out l1 rfl
  have zl2 := hlU.out l2 rfl
  clear hlT hlU
  have g27 : Gr (fun _ => False) w2 w7 := gA.trans (g4.trans (gB.trans (g6.trans gC)))
  have g47 : Gr (fun _ => False) w4 w7 := gB.trans (g6.trans gC)
  obtain ⟨en, vs1, rT, pT⟩ := told_row (base := w7.heap.size) (w' := w7) repT g27.size (fun z hz => g27.block z hz (fun e => e))
  obtain ⟨em, vs2, rU, pU⟩ := told_row (base := w7.heap.size) (w' := w7) repU g47.size (fun z hz => g47.block z hz (fun e => e))
  subst en em
  obtain ⟨⟨_, _, _, _, y4⟩, _⟩ := five_cells ((g4.trans (gB.trans (g6.trans gC))).keep hA (fun e => e))
  obtain ⟨⟨_, _, _, _, z4⟩, _⟩ := five_cells ((g6.trans gC).keep hB (fun e => e))
  have ht7 : tb < w7.heap.size := World.block_lt_of_cell? _ _ y4
  have hu7 : ub < w7.heap.size := World.block_lt_of_cell? _ _ z4
  have hv7 : vb < w7.heap.size := (Array.getElem?_eq_some_iff.1 hC).1
  have G7 : Hid (Gr (fun _ => False) W w7) := G5.out.trans (g6.trans gC)
  have rep7 : Hid (Rep (fun k => k < w7.heap.size) w7 (.mk 18 e0 0 [] (l1 ++ l2)) (trv vk vt vn (.slice e1 o1 f1) (.slice e2 o2 f2))) := rep6.turn (fun z hz hl => ⟨by have := gC.size; omega, gC.block z hl (fun e => e)⟩)
  have hT : Hid (∀ w, Gr (fun k => w7.heap.size ≤ k) w7 w → RowT (fun z => z < w7.heap.size) w vs1 l1.length (.slice a2 l1.length c2) ∧ Reps (fun z => z < w7.heap.size) w l1 vs1) := fun w g => ⟨rT.turn (fun z hz hl => ⟨hz, g.block z hl (by omega)⟩), pT.turn (fun z hz hl => ⟨hz, g.block z hl (by omega)⟩)⟩
  have hU : Hid (∀ w, Gr (fun k => w7.heap.size ≤ k) w7 w → RowT (fun z => z < w7.heap.size) w vs2 l2.length (.slice b2 l2.length d2) ∧ Reps (fun z => z < w7.heap.size) w l2 vs2) := fun w g => ⟨rU.turn (fun z hz hl => ⟨hz, g.block z hl (by omega)⟩), pU.turn (fun z hz hl => ⟨hz, g.block z hl (by omega)⟩)⟩
  replace zl1 := Lib.hid zl1
  replace zl2 := Lib.hid zl2
  clear rT pT rU pU repT repU rep6 g27 g47 hA hB hA4 hA5 htw gA gB gC g6 g4 g2 g1 G3 G5 hG45 cc1 cc2 hw
  refine wp_region_L (T := S2 tb ub (.slice a2 l1.length c2) (.slice b2 l2.length d2)) (L := 9) (by kernel_rfl) ?_
  have Gw : Gr (fun k => w7.heap.size ≤ k) w7 w7.drew := Gr.drew _ _
  have TS : S2 tb ub (.slice a2 l1.length c2) (.slice b2 l2.length d2) w7.drew := ⟨cell_gr y4 Gw (by omega), cell_gr z4 Gw (by omega)⟩
  generalize w7.drew = w at Gw TS ⊢
  refine wpAnyL_at (i := 1) (v := ptr tb 4) (some 55) rfl rfl (by kernel_rfl) (by kernel_rfl) (by kernel_rfl) (by kernel_rfl) (by decide) (fun _ _ _ h => h) (Or.inl ⟨by rfl, ?_⟩) TS ?_
  · intro w hSw
    obtain ⟨hs1, hs2⟩ := hSw
    go_simp
  try simp only [Act.put, List.setIfInBounds_toArray, List.set_cons_zero, List.set_cons_succ]
  refine wpAnyL_at (i := 2) (v := .slice a2 l1.length c2) (some 56) rfl rfl (by kernel_rfl) (by kernel_rfl) (by kernel_rfl) (by kernel_rfl) (by decide) (fun _ _ _ h => h) (Or.inl ⟨by rfl, ?_⟩) TS ?_
  · intro w hSw
    obtain ⟨hs1, hs2⟩ := hSw
    go_simp
  try simp only [Act.put, List.setIfInBounds_toArray, List.set_cons_zero, List.set_cons_succ]
  refine wpAnyL_at (i := 4) (v := ptr ub 4) (some 58) rfl rfl (by kernel_rfl) (by kernel_rfl) (by kernel_rfl) (by kernel_rfl) (by decide) (fun _ _ _ h => h) (Or.inl ⟨by rfl, ?_⟩) TS ?_
  · intro w hSw
    obtain ⟨hs1, hs2⟩ := hSw
    go_simp
  try simp only [Act.put, List.setIfInBounds_toArray, List.set_cons_zero, List.set_cons_succ]
  refine wpAnyL_at (i := 5) (v := .slice b2 l2.length d2) (some 59) rfl rfl (by kernel_rfl) (by kernel_rfl) (by kernel_rfl) (by kernel_rfl) (by decide) (fun _ _ _ h => h) (Or.inl ⟨by rfl, ?_⟩) TS ?_
  · intro w hSw
    obtain ⟨hs1, hs2⟩ := hSw
    go_simp
  try simp only [Act.put, List.setIfInBounds_toArray, List.set_cons_zero, List.set_cons_succ]
  refine wpAnyL_two (i := 0) (j := 8) (by kernel_rfl) rfl rfl (fun K hK => ?_) (fun K hK => ?_)
  · go_simp
    have rowwa := row_empty (w0 := w) (base := w7.heap.size) Gw.size
    have gg := Gr.alloc w (.cells #[] 25) (fun k => w7.heap.size ≤ k)
    have Gwa := Gw.trans gg
    have TS : S2 tb ub (.slice a2 l1.length c2) (.slice b2 l2.length d2) (w.alloc (.cells #[] 25)) := ⟨cell_gr y4 Gwa (by omega), cell_gr z4 Gwa (by omega)⟩
    have hswa : w.heap.size < (w.alloc (.cells #[] 25)).heap.size := by simp
    refine hK.out _ _ (fun _ => TS) ?_
    clear hK K gg
    generalize w.alloc (.cells #[] 25) = wa at *
    obtain ⟨gbwa, hgbwa⟩ : ∃ u, w.heap.size = u := ⟨_, rfl⟩
    rw [hgbwa] at rowwa ⊢
    try simp only [Act.put, List.setIfInBounds_toArray, List.set_cons_zero, List.set_cons_succ]
    refine wpAnyL_two (i := 3) (j := 8) (by kernel_rfl) rfl rfl (fun K hK => ?_) (fun K hK => ?_)
    · refine step_tt rfl _ _ rfl w7.heap.size (.slice (some ⟨gbwa, 0, none⟩) 0 0) (0) ([]) (fun z => z < w7.heap.size) l1 vs1 (.slice a2 l1.length c2) rfl rfl rowwa (hT.out wa Gwa).1 (hT.out wa Gwa).2 (by have := zl1.out; have := zl2.out; omega) Gwa.size ?_
      intro vwa1 wa1 rowwa1 gg keep
      rw [Nat.zero_add] at rowwa1
      have Gwa1 := Gwa.trans gg
      have TS : S2 tb ub (.slice a2 l1.length c2) (.slice b2 l2.length d2) wa1 := ⟨cell_gr y4 Gwa1 (by omega), cell_gr z4 Gwa1 (by omega)⟩
      obtain ⟨awa1, cwa1, rfl⟩ := ownsRow_sv rowwa1
      refine hK.out _ _ (fun _ => TS) ?_
      clear hK K gg keep
      try simp only [Act.put, List.setIfInBounds_toArray, List.set_cons_zero, List.set_cons_succ]
      refine wpAnyL_two (i := 6) (j := 8) (by kernel_rfl) rfl rfl (fun K hK => ?_) (fun K hK => ?_)
      · refine step_tt rfl _ _ rfl w7.heap.size (.slice awa1 (l1.length) cwa1) (l1.length) ([] ++ vs1.flatMap cellsOf) (fun z => z < w7.heap.size) l2 vs2 (.slice b2 l2.length d2) rfl rfl rowwa1 (hU.out wa1 Gwa1).1 (hU.out wa1 Gwa1).2 (by have := zl1.out; have := zl2.out; omega) Gwa1.size ?_
        intro vwa12 wa12 rowwa12 gg keep
        have Gwa12 := Gwa1.trans gg
        have TS : S2 tb ub (.slice a2 l1.length c2) (.slice b2 l2.length d2) wa12 := ⟨cell_gr y4 Gwa12 (by omega), cell_gr z4 Gwa12 (by omega)⟩
        obtain ⟨awa12, cwa12, rfl⟩ := ownsRow_sv rowwa12
        refine hK.out _ _ (fun _ => TS) ?_
        clear hK K gg keep
        try simp only [Act.put, List.setIfInBounds_toArray, List.set_cons_zero, List.set_cons_succ]
        refine wpAnyL_two (i := 7) (j := 8) (by kernel_rfl) rfl rfl (fun K hK => ?_) (fun K hK => ?_)
        · go_simp
          refine hK.out _ _ (fun _ => TS) ?_
          clear hK K
          try simp only [Act.put, List.setIfInBounds_toArray, List.set_cons_zero, List.set_cons_succ]
          refine wpAnyL_one (i := 8) (by kernel_rfl) rfl (fun K hK => ?_)
          go_simp
          have gz := Gr.alloc wa12 (.cells zc 25) (fun _ => False)
          have Gwa12z := Gwa12.trans (gz.any _)
          have hzwa12z := heap_alloc_new wa12 (.cells zc 25)
          have TS : S2 tb ub (.slice a2 l1.length c2) (.slice b2 l2.length d2) (wa12.alloc (.cells zc 25)) := ⟨cell_gr y4 Gwa12z (by omega), cell_gr z4 Gwa12z (by omega)⟩
          obtain ⟨zb, hzb⟩ : ∃ u, wa12.heap.size = u := ⟨_, rfl⟩
          have hzn : w7.heap.size ≤ zb := by have := Gwa12.size; omega
          have rowwa12z := ownsRow_gr rowwa12 gz (fun _ _ e => e)
          have hnewa12z : (.slice awa12 (l1.length + l2.length) cwa12 : Value).ownBlock ≠ some zb := fun e => by have := (ownsRow_lt rowwa12 zb e).2; omega
          refine hK.out _ _ (fun _ => TS) ?_
          clear hK K gz
          rw [hzb] at hzwa12z ⊢
          generalize wa12.alloc (.cells zc 25) = wa12z at *
          try simp only [Act.put, List.setIfInBounds_toArray, List.set_cons_zero, List.set_cons_succ]
          refine wpAnyL_one (i := 9) (by kernel_rfl) rfl (fun K hK => ?_)
          obtain ⟨⟨_, _, _, _, _⟩, ff0, ff1, ff2, ff3, ff4⟩ := five_cells hzwa12z
          have hzl : zb < wa12z.heap.size := (Array.getElem?_eq_some_iff.1 hzwa12z).1
          go_simp
          refine hK.out _ _ (fun h => absurd rfl h) ?_
          clear hK K
          try simp only [Act.put, List.setIfInBounds_toArray, List.set_cons_zero, List.set_cons_succ]
          refine wpAnyL_done (by kernel_rfl) ?_ _
          refine NoPanic.normal ?_
          obtain ⟨F1, F2, F3⟩ := funs_fin (w := wa12z) (zb := zb) Gwa12z rowwa12z (hT.out wa12z Gwa12z).2 (hU.out wa12z Gwa12z).2 hzwa12z hnewa12z hzn
          obtain ⟨wF, hwF⟩ : ∃ wF, set5 wa12z zb (.int .i64 18) (.string e0) (.int .i64 0) nl (.slice awa12 (l1.length + l2.length) cwa12) = wF := ⟨_, rfl⟩
          rw [hwF] at F1 F2 F3
          rw [show ((((wa12z.setCell ⟨zb, 0, none⟩ (.int .i64 18)).setCell ⟨zb, 1, none⟩ (.string e0)).setCell ⟨zb, 2, none⟩ (.int .i64 0)).setCell ⟨zb, 3, none⟩ nl).setCell ⟨zb, 4, none⟩ (.slice awa12 (l1.length + l2.length) cwa12) = wF from hwF]
          obtain ⟨⟨s0, s1, s2, s3, s4⟩, _⟩ := five_cells F3
          obtain ⟨⟨t0, t1, t2, t3, t4⟩, _⟩ := five_cells (F1.keep hC (by omega))
          have R7 : Rep (fun k => k < wF.heap.size) wF (.mk 18 e0 0 [] (l1 ++ l2)) (trv vk vt vn (.slice e1 o1 f1) (.slice e2 o2 f2)) := rep7.out.turn (fun z hz hl => ⟨by have := F1.size; omega, F1.block z hl (by omega)⟩)
          have hsm := Lib.hid (same_c wF wF.heap.size _ _ _ R7 F2 (Nat.le_refl _))
          have GF : Hid (Gr (fun _ => False) W wF) := G7.out.trans' F1 (fun k hk e => by have := G7.out.size; omega)
          have hzF : zb < wF.heap.size := (Array.getElem?_eq_some_iff.1 F3).1
          have hvF : vb < wF.heap.size := by have := F1.size; omega
          clear hwF F1 F2 F3 R7
          go_wp2_with fail
          refine hsm.out.mono ?_
          rintro e w9 ⟨rfl, g9⟩
          go_wp2_with fail
          go_ret
          exact ⟨rfl, GF.out.trans g9⟩
        · go_simp
          have gz := Gr.alloc wa12 (.cells zc 25) (fun _ => False)
          have Gwa12z := Gwa12.trans (gz.any _)
          have hzwa12z := heap_alloc_new wa12 (.cells zc 25)
          have TS : S2 tb ub (.slice a2 l1.length c2) (.slice b2 l2.length d2) (wa12.alloc (.cells zc 25)) := ⟨cell_gr y4 Gwa12z (by omega), cell_gr z4 Gwa12z (by omega)⟩
          obtain ⟨zb, hzb⟩ : ∃ u, wa12.heap.size = u := ⟨_, rfl⟩
          have hzn : w7.heap.size ≤ zb := by have := Gwa12.size; omega
          have rowwa12z := ownsRow_gr rowwa12 gz (fun _ _ e => e)
          have hnewa12z : (.slice awa12 (l1.length + l2.length) cwa12 : Value).ownBlock ≠ some zb := fun e => by have := (ownsRow_lt rowwa12 zb e).2; omega
          refine hK.out _ _ (fun _ => TS) ?_
          clear hK K gz
          rw [hzb] at hzwa12z ⊢
          generalize wa12.alloc (.cells zc 25) = wa12z at *
          try simp only [Act.put, List.setIfInBounds_toArray, List.set_cons_zero, List.set_cons_succ]
          refine wpAnyL_one (i := 7) (by kernel_rfl) rfl (fun K hK => ?_)
          go_simp
          refine hK.out _ _ (fun _ => TS) ?_
          clear hK K
          try simp only [Act.put, List.setIfInBounds_toArray, List.set_cons_zero, List.set_cons_succ]
          refine wpAnyL_one (i := 9) (by kernel_rfl) rfl (fun K hK => ?_)
          obtain ⟨⟨_, _, _, _, _⟩, ff0, ff1, ff2, ff3, ff4⟩ := five_cells hzwa12z
          have hzl : zb < wa12z.heap.size := (Array.getElem?_eq_some_iff.1 hzwa12z).1
          go_simp
          refine hK.out _ _ (fun h => absurd rfl h) ?_
          clear hK K
          try simp only [Act.put, List.setIfInBounds_toArray, List.set_cons_zero, List.set_cons_succ]
          refine wpAnyL_done (by kernel_rfl) ?_ _
          refine NoPanic.normal ?_
          obtain ⟨F1, F2, F3⟩ := funs_fin (w := wa12z) (zb := zb) Gwa12z rowwa12z (hT.out wa12z Gwa12z).2 (hU.out wa12z Gwa12z).2 hzwa12z hnewa12z hzn
          obtain ⟨wF, hwF⟩ : ∃ wF, set5 wa12z zb (.int .i64 18) (.string e0) (.int .i64 0) nl (.slice awa12 (l1.length + l2.length) cwa12) = wF := ⟨_, rfl⟩
          rw [hwF] at F1 F2 F3
          rw [show ((((wa12z.setCell ⟨zb, 0, none⟩ (.int .i64 18)).setCell ⟨zb, 1, none⟩ (.string e0)).setCell ⟨zb, 2, none⟩ (.int .i64 0)).setCell ⟨zb, 3, none⟩ nl).setCell ⟨zb, 4, none⟩ (.slice awa12 (l1.length + l2.length) cwa12) = wF from hwF]
          obtain ⟨⟨s0, s1, s2, s3, s4⟩, _⟩ := five_cells F3
          obtain ⟨⟨t0, t1, t2, t3, t4⟩, _⟩ := five_cells (F1.keep hC (by omega))
          have R7 : Rep (fun k => k < wF.heap.size) wF (.mk 18 e0 0 [] (l1 ++ l2)) (trv vk vt vn (.slice e1 o1 f1) (.slice e2 o2 f2)) := rep7.out.turn (fun z hz hl => ⟨by have := F1.size; omega, F1.block z hl (by omega)⟩)
          have hsm := Lib.hid (same_c wF wF.heap.size _ _ _ R7 F2 (Nat.le_refl _))
          have GF : Hid (Gr (fun _ => False) W wF) := G7.out.trans' F1 (fun k hk e => by have := G7.out.size; omega)
          have hzF : zb < wF.heap.size := (Array.getElem?_eq_some_iff.1 F3).1
          have hvF : vb < wF.heap.size := by have := F1.size; omega
          clear hwF F1 F2 F3 R7
          go_wp2_with fail
          refine hsm.out.mono ?_
          rintro e w9 ⟨rfl, g9⟩
          go_wp2_with fail
          go_ret
          exact ⟨rfl, GF.out.trans g9⟩
      · go_simp
        have gz := Gr.alloc wa1 (.cells zc 25) (fun _ => False)
        have Gwa1z := Gwa1.trans (gz.any _)
        have hzwa1z := heap_alloc_new wa1 (.cells zc 25)
        have TS : S2 tb ub (.slice a2 l1.length c2) (.slice b2 l2.length d2) (wa1.alloc (.cells zc 25)) := ⟨cell_gr y4 Gwa1z (by omega), cell_gr z4 Gwa1z (by omega)⟩
        obtain ⟨zb, hzb⟩ : ∃ u, wa1.heap.size = u := ⟨_, rfl⟩
        have hzn : w7.heap.size ≤ zb := by have := Gwa1.size; omega
        have rowwa1z := ownsRow_gr rowwa1 gz (fun _ _ e => e)
        have hnewa1z : (.slice awa1 (l1.length) cwa1 : Value).ownBlock ≠ some zb := fun e => by have := (ownsRow_lt rowwa1 zb e).2; omega
        refine hK.out _ _ (fun _ => TS) ?_
        clear hK K gz
        rw [hzb] at hzwa1z ⊢
        generalize wa1.alloc (.cells zc 25) = wa1z at *
        try simp only [Act.put, List.setIfInBounds_toArray, List.set_cons_zero, List.set_cons_succ]
        refine wpAnyL_one (i := 6) (by kernel_rfl) rfl (fun K hK => ?_)
        refine step_tt rfl _ _ rfl w7.heap.size (.slice awa1 (l1.length) cwa1) (l1.length) ([] ++ vs1.flatMap cellsOf) (fun z => z < w7.heap.size) l2 vs2 (.slice b2 l2.length d2) rfl rfl rowwa1z (hU.out wa1z Gwa1z).1 (hU.out wa1z Gwa1z).2 (by have := zl1.out; have := zl2.out; omega) Gwa1z.size ?_
        intro vwa1z2 wa1z2 rowwa1z2 gg keep
        have Gwa1z2 := Gwa1z.trans gg
        have TS : S2 tb ub (.slice a2 l1.length c2) (.slice b2 l2.length d2) wa1z2 := ⟨cell_gr y4 Gwa1z2 (by omega), cell_gr z4 Gwa1z2 (by omega)⟩
        obtain ⟨hzwa1z2, hnewa1z2⟩ := keep zb _ hzwa1z hnewa1z
        obtain ⟨awa1z2, cwa1z2, rfl⟩ := ownsRow_sv rowwa1z2
        refine hK.out _ _ (fun _ => TS) ?_
        clear hK K gg keep
        try simp only [Act.put, List.setIfInBounds_toArray, List.set_cons_zero, List.set_cons_succ]
        refine wpAnyL_one (i := 7) (by kernel_rfl) rfl (fun K hK => ?_)
        go_simp
        refine hK.out _ _ (fun _ => TS) ?_
        clear hK K
        try simp only [Act.put, List.setIfInBounds_toArray, List.set_cons_zero, List.set_cons_succ]
        refine wpAnyL_one (i := 9) (by kernel_rfl) rfl (fun K hK => ?_)
        obtain ⟨⟨_, _, _, _, _⟩, ff0, ff1, ff2, ff3, ff4⟩ := five_cells hzwa1z2
        have hzl : zb < wa1z2.heap.size := (Array.getElem?_eq_some_iff.1 hzwa1z2).1
        go_simp
        refine hK.out _ _ (fun h => absurd rfl h) ?_
        clear hK K
        try simp only [Act.put, List.setIfInBounds_toArray, List.set_cons_zero, List.set_cons_succ]
        refine wpAnyL_done (by kernel_rfl) ?_ _
        refine NoPanic.normal ?_
        obtain ⟨F1, F2, F3⟩ := funs_fin (w := wa1z2) (zb := zb) Gwa1z2 rowwa1z2 (hT.out wa1z2 Gwa1z2).2 (hU.out wa1z2 Gwa1z2).2 hzwa1z2 hnewa1z2 hzn
        obtain ⟨wF, hwF⟩ : ∃ wF, set5 wa1z2 zb (.int .i64 18) (.string e0) (.int .i64 0) nl (.slice awa1z2 (l1.length + l2.length) cwa1z2) = wF := ⟨_, rfl⟩
        rw [hwF] at F1 F2 F3
        rw [show ((((wa1z2.setCell ⟨zb, 0, none⟩ (.int .i64 18)).setCell ⟨zb, 1, none⟩ (.string e0)).setCell ⟨zb, 2, none⟩ (.int .i64 0)).setCell ⟨zb, 3, none⟩ nl).setCell ⟨zb, 4, none⟩ (.slice awa1z2 (l1.length + l2.length) cwa1z2) = wF from hwF]
        obtain ⟨⟨s0, s1, s2, s3, s4⟩, _⟩ := five_cells F3
        obtain ⟨⟨t0, t1, t2, t3, t4⟩, _⟩ := five_cells (F1.keep hC (by omega))
        have R7 : Rep (fun k => k < wF.heap.size) wF (.mk 18 e0 0 [] (l1 ++ l2)) (trv vk vt vn (.slice e1 o1 f1) (.slice e2 o2 f2)) := rep7.out.turn (fun z hz hl => ⟨by have := F1.size; omega, F1.block z hl (by omega)⟩)
        have hsm := Lib.hid (same_c wF wF.heap.size _ _ _ R7 F2 (Nat.le_refl _))
        have GF : Hid (Gr (fun _ => False) W wF) := G7.out.trans' F1 (fun k hk e => by have := G7.out.size; omega)
        have hzF : zb < wF.heap.size := (Array.getElem?_eq_some_iff.1 F3).1
        have hvF : vb < wF.heap.size := by have := F1.size; omega
        clear hwF F1 F2 F3 R7
        go_wp2_with fail
        refine hsm.out.mono ?_
        rintro e w9 ⟨rfl, g9⟩
        go_wp2_with fail
        go_ret
        exact ⟨rfl, GF.out.trans g9⟩
    · go_simp
      have gz := Gr.alloc wa (.cells zc 25) (fun _ => False)
      have Gwaz := Gwa.trans (gz.any _)
      have hzwaz := heap_alloc_new wa (.cells zc 25)
      have TS : S2 tb ub (.slice a2 l1.length c2) (.slice b2 l2.length d2) (wa.alloc (.cells zc 25)) := ⟨cell_gr y4 Gwaz (by omega), cell_gr z4 Gwaz (by omega)⟩
      obtain ⟨zb, hzb⟩ : ∃ u, wa.heap.size = u := ⟨_, rfl⟩
      have hzn : w7.heap.size ≤ zb := by have := Gwa.size; omega
      have rowwaz := ownsRow_gr rowwa gz (fun _ _ e => e)
      have hnewaz : (.slice (some ⟨gbwa, 0, none⟩) 0 0 : Value).ownBlock ≠ some zb := fun e => by have := (ownsRow_lt rowwa zb e).2; omega
      refine hK.out _ _ (fun _ => TS) ?_
      clear hK K gz
      rw [hzb] at hzwaz ⊢
      generalize wa.alloc (.cells zc 25) = waz at *
      try simp only [Act.put, List.setIfInBounds_toArray, List.set_cons_zero, List.set_cons_succ]
      refine wpAnyL_one (i := 3) (by kernel_rfl) rfl (fun K hK => ?_)
      refine step_tt rfl _ _ rfl w7.heap.size (.slice (some ⟨gbwa, 0, none⟩) 0 0) (0) ([]) (fun z => z < w7.heap.size) l1 vs1 (.slice a2 l1.length c2) rfl rfl rowwaz (hT.out waz Gwaz).1 (hT.out waz Gwaz).2 (by have := zl1.out; have := zl2.out; omega) Gwaz.size ?_
      intro vwaz1 waz1 rowwaz1 gg keep
      rw [Nat.zero_add] at rowwaz1
      have Gwaz1 := Gwaz.trans gg
      have TS : S2 tb ub (.slice a2 l1.length c2) (.slice b2 l2.length d2) waz1 := ⟨cell_gr y4 Gwaz1 (by omega), cell_gr z4 Gwaz1 (by omega)⟩
      obtain ⟨hzwaz1, hnewaz1⟩ := keep zb _ hzwaz hnewaz
      obtain ⟨awaz1, cwaz1, rfl⟩ := ownsRow_sv rowwaz1
      refine hK.out _ _ (fun _ => TS) ?_
      clear hK K gg keep
      try simp only [Act.put, List.setIfInBounds_toArray, List.set_cons_zero, List.set_cons_succ]
      refine wpAnyL_one (i := 6) (by kernel_rfl) rfl (fun K hK => ?_)
      refine step_tt rfl _ _ rfl w7.heap.size (.slice awaz1 (l1.length) cwaz1) (l1.length) ([] ++ vs1.flatMap cellsOf) (fun z => z < w7.heap.size) l2 vs2 (.slice b2 l2.length d2) rfl rfl rowwaz1 (hU.out waz1 Gwaz1).1 (hU.out waz1 Gwaz1).2 (by have := zl1.out; have := zl2.out; omega) Gwaz1.size ?_
      intro vwaz12 waz12 rowwaz12 gg keep
      have Gwaz12 := Gwaz1.trans gg
      have TS : S2 tb ub (.slice a2 l1.length c2) (.slice b2 l2.length d2) waz12 := ⟨cell_gr y4 Gwaz12 (by omega), cell_gr z4 Gwaz12 (by omega)⟩
      obtain ⟨hzwaz12, hnewaz12⟩ := keep zb _ hzwaz1 hnewaz1
      obtain ⟨awaz12, cwaz12, rfl⟩ := ownsRow_sv rowwaz12
      refine hK.out _ _ (fun _ => TS) ?_
      clear hK K gg keep
      try simp only [Act.put, List.setIfInBounds_toArray, List.set_cons_zero, List.set_cons_succ]
      refine wpAnyL_one (i := 7) (by kernel_rfl) rfl (fun K hK => ?_)
      go_simp
      refine hK.out _ _ (fun _ => TS) ?_
      clear hK K
      try simp only [Act.put, List.setIfInBounds_toArray, List.set_cons_zero, List.set_cons_succ]
      refine wpAnyL_one (i := 9) (by kernel_rfl) rfl (fun K hK => ?_)
      obtain ⟨⟨_, _, _, _, _⟩, ff0, ff1, ff2, ff3, ff4⟩ := five_cells hzwaz12
      have hzl : zb < waz12.heap.size := (Array.getElem?_eq_some_iff.1 hzwaz12).1
      go_simp
      refine hK.out _ _ (fun h => absurd rfl h) ?_
      clear hK K
      try simp only [Act.put, List.setIfInBounds_toArray, List.set_cons_zero, List.set_cons_succ]
      refine wpAnyL_done (by kernel_rfl) ?_ _
      refine NoPanic.normal ?_
      obtain ⟨F1, F2, F3⟩ := funs_fin (w := waz12) (zb := zb) Gwaz12 rowwaz12 (hT.out waz12 Gwaz12).2 (hU.out waz12 Gwaz12).2 hzwaz12 hnewaz12 hzn
      obtain ⟨wF, hwF⟩ : ∃ wF, set5 waz12 zb (.int .i64 18) (.string e0) (.int .i64 0) nl (.slice awaz12 (l1.length + l2.length) cwaz12) = wF := ⟨_, rfl⟩
      rw [hwF] at F1 F2 F3
      rw [show ((((waz12.setCell ⟨zb, 0, none⟩ (.int .i64 18)).setCell ⟨zb, 1, none⟩ (.string e0)).setCell ⟨zb, 2, none⟩ (.int .i64 0)).setCell ⟨zb, 3, none⟩ nl).setCell ⟨zb, 4, none⟩ (.slice awaz12 (l1.length + l2.length) cwaz12) = wF from hwF]
      obtain ⟨⟨s0, s1, s2, s3, s4⟩, _⟩ := five_cells F3
      obtain ⟨⟨t0, t1, t2, t3, t4⟩, _⟩ := five_cells (F1.keep hC (by omega))
      have R7 : Rep (fun k => k < wF.heap.size) wF (.mk 18 e0 0 [] (l1 ++ l2)) (trv vk vt vn (.slice e1 o1 f1) (.slice e2 o2 f2)) := rep7.out.turn (fun z hz hl => ⟨by have := F1.size; omega, F1.block z hl (by omega)⟩)
      have hsm := Lib.hid (same_c wF wF.heap.size _ _ _ R7 F2 (Nat.le_refl _))
      have GF : Hid (Gr (fun _ => False) W wF) := G7.out.trans' F1 (fun k hk e => by have := G7.out.size; omega)
      have hzF : zb < wF.heap.size := (Array.getElem?_eq_some_iff.1 F3).1
      have hvF : vb < wF.heap.size := by have := F1.size; omega
      clear hwF F1 F2 F3 R7
      go_wp2_with fail
      refine hsm.out.mono ?_
      rintro e w9 ⟨rfl, g9⟩
      go_wp2_with fail
      go_ret
      exact ⟨rfl, GF.out.trans g9⟩
  · go_simp
    have gz := Gr.alloc w (.cells zc 25) (fun _ => False)
    have Gwz := Gw.trans (gz.any _)
    have hzwz := heap_alloc_new w (.cells zc 25)
    have TS : S2 tb ub (.slice a2 l1.length c2) (.slice b2 l2.length d2) (w.alloc (.cells zc 25)) := ⟨cell_gr y4 Gwz (by omega), cell_gr z4 Gwz (by omega)⟩
    obtain ⟨zb, hzb⟩ : ∃ u, w.heap.size = u := ⟨_, rfl⟩
    have hzn : w7.heap.size ≤ zb := by have := Gw.size; omega
    refine hK.out _ _ (fun _ => TS) ?_
    clear hK K gz
    rw [hzb] at hzwz ⊢
    generalize w.alloc (.cells zc 25) = wz at *
    try simp only [Act.put, List.setIfInBounds_toArray, List.set_cons_zero, List.set_cons_succ]
    refine wpAnyL_one (i := 0) (by kernel_rfl) rfl (fun K hK => ?_)
    go_simp
    have rowwza := row_empty (w0 := wz) (base := w7.heap.size) Gwz.size
    have gg := Gr.alloc wz (.cells #[] 25) (fun k => w7.heap.size ≤ k)
    have Gwza := Gwz.trans gg
    have TS : S2 tb ub (.slice a2 l1.length c2) (.slice b2 l2.length d2) (wz.alloc (.cells #[] 25)) := ⟨cell_gr y4 Gwza (by omega), cell_gr z4 Gwza (by omega)⟩
    have hzwza := (Gr.alloc wz (.cells #[] 25) (fun _ => False)).keep hzwz (fun e => e)
    have hnewza : (Value.slice (some ⟨wz.heap.size, 0, none⟩) 0 0).ownBlock ≠ some zb := by
      have : zb < wz.heap.size := (Array.getElem?_eq_some_iff.1 hzwz).1
      simp [Value.ownBlock]; omega
    have hswza : wz.heap.size < (wz.alloc (.cells #[] 25)).heap.size := by simp
    refine hK.out _ _ (fun _ => TS) ?_
    clear hK K gg
    generalize wz.alloc (.cells #[] 25) = wza at *
    obtain ⟨gbwza, hgbwza⟩ : ∃ u, wz.heap.size = u := ⟨_, rfl⟩
    rw [hgbwza] at rowwza hnewza ⊢
    try simp only [Act.put, List.setIfInBounds_toArray, List.set_cons_zero, List.set_cons_succ]
    refine wpAnyL_one (i := 3) (by kernel_rfl) rfl (fun K hK => ?_)
    refine step_tt rfl _ _ rfl w7.heap.size (.slice (some ⟨gbwza, 0, none⟩) 0 0) (0) ([]) (fun z => z < w7.heap.size) l1 vs1 (.slice a2 l1.length c2) rfl rfl rowwza (hT.out wza Gwza).1 (hT.out wza Gwza).2 (by have := zl1.out; have := zl2.out; omega) Gwza.size ?_
    intro vwza1 wza1 rowwza1 gg keep
    rw [Nat.zero_add] at rowwza1
    have Gwza1 := Gwza.trans gg
    have TS : S2 tb ub (.slice a2 l1.length c2) (.slice b2 l2.length d2) wza1 := ⟨cell_gr y4 Gwza1 (by omega), cell_gr z4 Gwza1 (by omega)⟩
    obtain ⟨hzwza1, hnewza1⟩ := keep zb _ hzwza hnewza
    obtain ⟨awza1, cwza1, rfl⟩ := ownsRow_sv rowwza1
    refine hK.out _ _ (fun _ => TS) ?_
    clear hK K gg keep
    try simp only [Act.put, List.setIfInBounds_toArray, List.set_cons_zero, List.set_cons_succ]
    refine wpAnyL_one (i := 6) (by kernel_rfl) rfl (fun K hK => ?_)
    refine step_tt rfl _ _ rfl w7.heap.size (.slice awza1 (l1.length) cwza1) (l1.length) ([] ++ vs1.flatMap cellsOf) (fun z => z < w7.heap.size) l2 vs2 (.slice b2 l2.length d2) rfl rfl rowwza1 (hU.out wza1 Gwza1).1 (hU.out wza1 Gwza1).2 (by have := zl1.out; have := zl2.out; omega) Gwza1.size ?_
    intro vwza12 wza12 rowwza12 gg keep
    have Gwza12 := Gwza1.trans gg
    have TS : S2 tb ub (.slice a2 l1.length c2) (.slice b2 l2.length d2) wza12 := ⟨cell_gr y4 Gwza12 (by omega), cell_gr z4 Gwza12 (by omega)⟩
    obtain ⟨hzwza12, hnewza12⟩ := keep zb _ hzwza1 hnewza1
    obtain ⟨awza12, cwza12, rfl⟩ := ownsRow_sv rowwza12
    refine hK.out _ _ (fun _ => TS) ?_
    clear hK K gg keep
    try simp only [Act.put, List.setIfInBounds_toArray, List.set_cons_zero, List.set_cons_succ]
    refine wpAnyL_one (i := 7) (by kernel_rfl) rfl (fun K hK => ?_)
    go_simp
    refine hK.out _ _ (fun _ => TS) ?_
    clear hK K
    try simp only [Act.put, List.setIfInBounds_toArray, List.set_cons_zero, List.set_cons_succ]
    refine wpAnyL_one (i := 9) (by kernel_rfl) rfl (fun K hK => ?_)
    obtain ⟨⟨_, _, _, _, _⟩, ff0, ff1, ff2, ff3, ff4⟩ := five_cells hzwza12
    have hzl : zb < wza12.heap.size := (Array.getElem?_eq_some_iff.1 hzwza12).1
    go_simp
    refine hK.out _ _ (fun h => absurd rfl h) ?_
    clear hK K
    try simp only [Act.put, List.setIfInBounds_toArray, List.set_cons_zero, List.set_cons_succ]
    refine wpAnyL_done (by kernel_rfl) ?_ _
    refine NoPanic.normal ?_
    obtain ⟨F1, F2, F3⟩ := funs_fin (w := wza12) (zb := zb) Gwza12 rowwza12 (hT.out wza12 Gwza12).2 (hU.out wza12 Gwza12).2 hzwza12 hnewza12 hzn
    obtain ⟨wF, hwF⟩ : ∃ wF, set5 wza12 zb (.int .i64 18) (.string e0) (.int .i64 0) nl (.slice awza12 (l1.length + l2.length) cwza12) = wF := ⟨_, rfl⟩
    rw [hwF] at F1 F2 F3
    rw [show ((((wza12.setCell ⟨zb, 0, none⟩ (.int .i64 18)).setCell ⟨zb, 1, none⟩ (.string e0)).setCell ⟨zb, 2, none⟩ (.int .i64 0)).setCell ⟨zb, 3, none⟩ nl).setCell ⟨zb, 4, none⟩ (.slice awza12 (l1.length + l2.length) cwza12) = wF from hwF]
    obtain ⟨⟨s0, s1, s2, s3, s4⟩, _⟩ := five_cells F3
    obtain ⟨⟨t0, t1, t2, t3, t4⟩, _⟩ := five_cells (F1.keep hC (by omega))
    have R7 : Rep (fun k => k < wF.heap.size) wF (.mk 18 e0 0 [] (l1 ++ l2)) (trv vk vt vn (.slice e1 o1 f1) (.slice e2 o2 f2)) := rep7.out.turn (fun z hz hl => ⟨by have := F1.size; omega, F1.block z hl (by omega)⟩)
    have hsm := Lib.hid (same_c wF wF.heap.size _ _ _ R7 F2 (Nat.le_refl _))
    have GF : Hid (Gr (fun _ => False) W wF) := G7.out.trans' F1 (fun k hk e => by have := G7.out.size; omega)
    have hzF : zb < wF.heap.size := (Array.getElem?_eq_some_iff.1 F3).1
    have hvF : vb < wF.heap.size := by have := F1.size; omega
    clear hwF F1 F2 F3 R7
    go_wp2_with fail
    refine hsm.out.mono ?_
    rintro e w9 ⟨rfl, g9⟩
    go_wp2_with fail
    go_ret
    exact ⟨rfl, GF.out.trans g9⟩
end Go.Proofs.YtbmbgnmkakkpfaaDoor
