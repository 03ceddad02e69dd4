/-
  The walk of CheckTurns.
  A byte that came in.
-/
import Derived.Test.YtjedbfbolifjjaaGreatDoorHH
import Derived.Test.YtjedbfbolifjjaaGreatDoorJT
import Derived.Test.YtjedbfbolifjjaaGreatDoorPW
import Derived.Test.YtjedbfbolifjjaaGreatDoorMI
set_option linter.unusedVariables false
set_option linter.unusedSimpArgs false
namespace Go.Proofs.YtjedbfbolifjjaaGreatDoor
open Go.RowKit Go.Maps
variable {W W' : World}
theorem text_prog {s : ByteArray} {T : Tr} (h : textV s = .ok T) : ∃ l, T = .mk 18 e0 0 [] l := by
 unfold textV at h
 cases hv : scanV s with
 | error p => rw [hv] at h; cases h
 | ok x =>
  rw [hv] at h
  have h' : parseV (x.map tnOf) = .ok T := h
  unfold parseV at h'
  split at h'
  · cases h'
  · cases h'
    exact ⟨_, rfl⟩
theorem text_few {s : ByteArray} {T : Tr} (h : textV s = .ok T) : ∀ U ∈ preL [T], U.l.length ≤ 8009 := by
 unfold textV at h
 cases hv : scanV s with
 | error p => rw [hv] at h; cases h
 | ok l =>
  rw [hv] at h
  obtain ⟨h1, h2⟩ := scanV_all hv
  have := parse_sm (B := 60) (ts := l.map tnOf) (fun t ht => by obtain ⟨u, hu, rfl⟩ := List.mem_map.1 ht; exact (h1 u hu).1) h
  intro U hU
  obtain ⟨k, s', n, b, q⟩ := U
  have h3 := this _ hU
  rw [List.length_map] at h3
  have := h3.2
  show q.length ≤ _
  omega
theorem chk_170 {T : Tr} (h : crowdV T = true) : chkV T = 170 := by
 obtain ⟨k, s, n, b, l⟩ := T
 show (if crowdV (.mk k s n b l) = true then (170 : Int) else _) = 170
 rw [if_pos h]
theorem chk_has {T : Tr} (h : inL (nms ((preL [T]).take 4000)) zV = false) : chkV (renV T) = chkV T := by
 by_cases hl : (preL [T]).length ≤ 4000
 ·
  rw [List.take_of_length_le hl] at h
  refine chk_ren fun U hU h3 hz => ?_
  have hm : U.s ∈ nms (preL [T]) := by
   refine List.mem_flatMap.2 ⟨U, hU, ?_⟩
   obtain ⟨k, s, n, b, l⟩ := U
   have : k = 3 := h3
   subst this
   exact List.mem_singleton.2 rfl
  have h2 := List.any_eq_false.1 h U.s hm
  rw [hz] at h2
  simp at h2
 ·
  have h1 : crowdV T = true := by unfold crowdV; rw [decide_eq_true_eq]; omega
  have hpre : preL [renV T] = (preL [T]).map renV := by
   have := pre_ren [T]
   rw [renL_map] at this
   exact this
  have h2 : crowdV (renV T) = true := by unfold crowdV at h1 ⊢; rw [hpre, List.length_map]; exact h1
  rw [chk_170 h1, chk_170 h2]
theorem szs_ren {T : Tr} (h : Szs [T]) : Szs [renV T] := by
 have hpre : preL [renV T] = (preL [T]).map renV := by
  have := pre_ren [T]
  rw [renL_map] at this
  exact this
 intro U hU
 rw [hpre] at hU
 obtain ⟨V, hV, rfl⟩ := List.mem_map.1 hU
 have h1 := h V hV
 obtain ⟨k, s, n, b, l⟩ := V
 refine ⟨?_, by rw [ren_len]; exact h1.2⟩
 have h2 : s.size ≤ 140737488351232 := h1.1
 unfold rnS rn
 split
 · split
   · decide
   · exact h2
 · exact h2
theorem szs_turn {l : List Tr} (k : Nat) (h : Szs [.mk 18 e0 0 [] l]) : Szs [.mk 18 e0 0 [] (l.drop k ++ l.take k)] := by
 intro U hU
 rw [preL_cons, preL_nil, List.append_nil] at hU
 have hh : ∀ V, V = Tr.mk 18 e0 0 [] l ∨ V ∈ preL l → szT V := fun V hV => h V (by rw [preL_cons, preL_nil, List.append_nil]; exact List.mem_cons.2 hV)
 rcases List.mem_cons.1 hU with rfl | hU
 · have h1 := hh _ (.inl rfl)
   refine ⟨h1.1, ?_⟩
   have h2 : l.length ≤ 4611686018427387904 := h1.2
   rw [List.length_append, List.length_drop, List.length_take]
   omega
 · refine hh U (.inr ?_)
   rw [preL_app] at hU
   have e : preL l = preL (l.take k) ++ preL (l.drop k) := by rw [← preL_app, List.take_append_drop]
   rw [e]
   exact List.mem_append.2 (List.mem_append.1 hU).symm
theorem flat_drop {A : Nat → Prop} : ∀ (l : List Tr) (vs : List Value) (k : Nat), Reps A W l vs → (vs.drop k).flatMap cellsOf = (vs.flatMap cellsOf).drop (k * 5)
 | [], vs, k, h => by
  have : vs = [] := h
  subst this
  simp
 | T :: l, vs, 0, h => by simp
 | T :: l, vs, k + 1, h => by
  obtain ⟨v, r, rfl, h1, h2⟩ := h
  obtain ⟨_, _, _, _, _, _, _, _, _, rfl⟩ := Rep.agg h1
  rw [List.drop_succ_cons, flat_drop l r k h2, List.flatMap_cons]
  have e : (k + 1) * 5 = 5 + k * 5 := by omega
  rw [e, ← List.drop_drop]
  rfl
theorem reps_drop {A : Nat → Prop} : ∀ (l : List Tr) (vs : List Value) (k : Nat), Reps A W l vs → Reps A W (l.drop k) (vs.drop k)
 | [], vs, k, h => by
  have : vs = [] := h
  subst this
  simpa using h
 | T :: l, vs, 0, h => h
 | T :: l, vs, k + 1, h => by
  obtain ⟨v, r, rfl, h1, h2⟩ := h
  exact reps_drop l r k h2
theorem reps_take {A : Nat → Prop} : ∀ (l : List Tr) (vs : List Value) (k : Nat), Reps A W l vs → Reps A W (l.take k) (vs.take k)
 | [], vs, k, h => by
  have : vs = [] := h
  subst this
  simpa using h
 | T :: l, vs, 0, h => rfl
 | T :: l, vs, k + 1, h => by
  obtain ⟨v, r, rfl, h1, h2⟩ := h
  exact ⟨v, _, rfl, h1, reps_take l r k h2⟩
/-- The row that is read. -/
abbrev S1 (tb : Nat) (x : Value) (w : World) : Prop := w.cell? ⟨tb, 4, none⟩ = some x
section
variable {ops : Array Oper} {o : Oper} {a : Act} {w : World} {K : Act → World → Prop} {Q : Exit → Act → World → Prop} {E : Prop}
/-- Trees from any place put behind a row of the call's own, as one step of a region that draws. -/
theorem step_row (i0 : TypeInfo) (hi0 : Tryz.prog.info? 25 = some i0) (hzz : i0.zero = some (trv 0 e0 0 nl nl)) (hz1 : i0.size = 5) (hz2 : i0.bytes = 80) (hgd : o.guard = none) (x y : Operand) (ho : o.op = .call { callee := .builtin .append, args := #[x, y], argTypes := #[23, 23] }) (base : Nat) (v : Value) (n m : Nat) (xs : List Value) (ad : Addr) (c : Nat) (news : List Value)
 (hx : a.eval x = v) (hy : a.eval y = .slice (some ad) m c) (hv : w.ownsRow base 25 5 v n xs) (hl : news.length = m * 5) (hnews : ∀ j u, news[j]? = some u → w.cell? (ad.add j) = some u) (h1 : ∀ u ∈ news, u.oneCell' = true) (hn : n + m ≤ 200000) (hb : base ≤ w.heap.size)
 (h : ∀ v' w', w'.ownsRow base 25 5 v' (n + m) (xs ++ news) → Gr (fun k => base ≤ k) w w' → (∀ z o, w.heap[z]? = some o → v.ownBlock ≠ some z → w'.heap[z]? = some o ∧ v'.ownBlock ≠ some z) → K (a.put o.dst v') w') :
 if Region.wanted o (yielded ops a.tmps) = true then Oper.wp Tryz.prog o a w K Q else E := by
 have hw : Region.wanted o (yielded ops a.tmps) = true := by simp [Region.wanted, hgd]
 rw [if_pos hw]
 obtain ⟨v', w', hr, hown', hgrow, _, hloc⟩ := run_append_own_at (P := Tryz.prog) w base 23 o.type 25 i0 (trv 0 e0 0 nl nl) 5 80 Tryz.underlying23 hi0 hzz hz1 hz2 rfl (by decide) v n xs hv ad m c news hl hnews h1 (by unfold maxLen; omega) (by omega) hb
 unfold Oper.wp execOp
 simp only [ho, resolve, invoke, builtin, Sem.run_bind, Sem.run_pure, Result.andThen_ok, List.map_toArray, List.map_cons, List.map_nil, hx, hy, hr]
 exact h v' w' hown' (Gr.of_grown hgrow (fun z e => (ownsRow_lt hv z e).1)) (fun z o h1 h2 => ⟨(hgrow.block z (Array.getElem?_eq_some_iff.1 h1).1 (fun e => h2 e.symm)).trans h1, fun e => by
  have hz := (Array.getElem?_eq_some_iff.1 h1).1
  rcases hloc with h | h
  · exact h2 (h ▸ e)
  · rw [h] at e; cases e; omega⟩)
end
theorem turns_fin {A : Nat → Prop} {w7 w : World} {zb : Nat} {v : Value} {l1 l2 : List Tr} {vs1 vs2 : List Value} (G : Gr (fun k => w7.heap.size ≤ k) w7 w) (row : w.ownsRow w7.heap.size 25 5 v (l1.length + l2.length) (vs1.flatMap cellsOf ++ vs2.flatMap cellsOf)) (p1 : Reps A w l1 vs1) (p2 : Reps A w l2 vs2) (hA : ∀ z, A z → z < w7.heap.size)
 (hz : w.heap[zb]? = some (.cells zc 25 (0, 0))) (hne : v.ownBlock ≠ some zb) (hzn : w7.heap.size ≤ zb) :
 Gr (fun k => w7.heap.size ≤ k) w7 (set5 w zb (.int .i64 18) (.string e0) (.int .i64 0) nl v) ∧ Rep (fun k => k < (set5 w zb (.int .i64 18) (.string e0) (.int .i64 0) nl v).heap.size) (set5 w zb (.int .i64 18) (.string e0) (.int .i64 0) nl v) (.mk 18 e0 0 [] (l1 ++ l2)) (trv 18 e0 0 nl v) ∧
  (set5 w zb (.int .i64 18) (.string e0) (.int .i64 0) nl v).heap[zb]? = some (.cells #[.int .i64 18, .string e0, .int .i64 0, nl, v] 25 (0, 0)) := by
 have gs := set5_gr w zb (.int .i64 18) (.string e0) (.int .i64 0) nl v
 have hf := set5_heap hz (.int .i64 18) (.string e0) (.int .i64 0) nl v
 have hss := gs.size
 generalize set5 w zb (.int .i64 18) (.string e0) (.int .i64 0) nl v = wF at *
 have hGs := G.size
 refine ⟨G.trans' gs (fun k _ e => by omega), ?_, hf⟩
 have e1 : vs1.flatMap cellsOf ++ vs2.flatMap cellsOf = (vs1 ++ vs2).flatMap cellsOf := by rw [List.flatMap_append]
 have e2 : l1.length + l2.length = (l1 ++ l2).length := by rw [List.length_append]
 rw [e1, e2] at row
 refine ⟨nl, v, vs1 ++ vs2, rfl, .inl ⟨rfl, _, _, rfl⟩, ?_, ?_⟩
 · rcases row.2 with ⟨rfl, h0⟩ | ⟨g, cap, cur, rfl, hg, h2, h3, _, _, h6⟩
   · exact .inl ⟨h0, _, _, rfl⟩
   · have hgz : g ≠ zb := fun e => hne (by rw [e]; rfl)
     have hgl := (Array.getElem?_eq_some_iff.1 h2).1
     exact .inr ⟨g, cap, cur, rfl, by omega, gs.keep h2 hgz, h3, h6⟩
 · have hT : Turn A (fun k => k < wF.heap.size) w wF := fun z hz hl => ⟨by have := hA z hz; omega, gs.block z hl (by have := hA z hz; omega)⟩
   exact Reps.app (p2.turn hT) (p1.turn hT)
theorem row_empty {w0 : World} {base : Nat} (h : base ≤ w0.heap.size) : (w0.alloc (.cells #[] 25)).ownsRow base 25 5 (.slice (some ⟨w0.heap.size, 0, none⟩) 0 0) 0 [] := by
 simpa using World.ownsRow_lit (base := base) (e := 25) (size := 5) w0 #[] 0 h (by unfold maxLen; omega) rfl
theorem wpAnyL_two {P : Program} {ops : Array Oper} {Q : Exit → Act → World → Prop} {md : Region.Mode} {T : World → Prop} {L i j : Nat} {o o' : Oper} {f : Nat} {listed : Array Bool} {a : Act} {w : World} (hr : Region.ready md ops listed = [i, j]) (ho : ops[i]? = some o) (ho' : ops[j]? = some o')
 (h : ∀ K' : Act → World → Prop, Shut (∀ a w, (i ≠ L → T w) → wpAnyL P md ops Q T L f (listed.setIfInBounds i true) a w → K' a w) → if Region.wanted o (yielded ops a.tmps) = true then Oper.wp P o a w K' Q else K' (a.put o.dst undef) w)
 (h' : ∀ K' : Act → World → Prop, Shut (∀ a w, (j ≠ L → T w) → wpAnyL P md ops Q T L f (listed.setIfInBounds j true) a w → K' a w) → if Region.wanted o' (yielded ops a.tmps) = true then Oper.wp P o' a w K' Q else K' (a.put o'.dst undef) w) : wpAnyL P md ops Q T L (f + 1) listed a w := by
 refine ⟨fun h0 => (by rw [hr] at h0; cases h0), fun k hk => ?_⟩
 rw [hr] at hk
 rcases List.mem_cons.1 hk with rfl | hk
 · exact wpOp_step ho (fun K' hK => h K' (fun a w h1 h2 => hK a w ⟨h1, h2⟩))
 · rw [List.mem_singleton] at hk
   subst hk
   exact wpOp_step ho' (fun K' hK => h' K' (fun a w h1 h2 => hK a w ⟨h1, h2⟩))
/-- The row of a tree that is told, for all worlds behind. -/
theorem prog_row {w4 : World} {A : Nat → Prop} {l : List Tr} {bv : Value} {la : Option Addr} {lc k : Nat} (h : Rep A w4 (.mk 18 e0 0 [] l) (trv 18 e0 0 bv (.slice la l.length lc))) (hA : ∀ z, A z → z < w4.heap.size) (h0 : l.length ≠ 0) (hk : k < l.length) :
 ∃ (g : Nat) (vs : List Value), la = some ⟨g, 0, none⟩ ∧ g < w4.heap.size ∧ l.length ≤ lc ∧ ((vs.drop k).flatMap cellsOf).length = (l.length - k) * 5 ∧ ((vs.take k).flatMap cellsOf).length = k * 5 ∧ (∀ u ∈ (vs.drop k).flatMap cellsOf, u.oneCell' = true) ∧ (∀ u ∈ (vs.take k).flatMap cellsOf, u.oneCell' = true) ∧
  ∀ w, Gr (fun k => w4.heap.size ≤ k) w4 w → (∀ j u, ((vs.drop k).flatMap cellsOf)[j]? = some u → w.cell? ((⟨g, k * 5, none⟩ : Addr).add j) = some u) ∧ (∀ j u, ((vs.take k).flatMap cellsOf)[j]? = some u → w.cell? ((⟨g, 0, none⟩ : Addr).add j) = some u) ∧ Reps A w (l.drop k) (vs.drop k) ∧ Reps A w (l.take k) (vs.take k) := by
 obtain ⟨bv', lv, vs, e, hb, hr, hp⟩ := h
 simp only [trv, Value.agg.injEq, Array.mk.injEq, List.cons.injEq, and_true] at e
 obtain ⟨_, _, _, _, rfl⟩ := e
 rcases hr with ⟨h0', _⟩ | ⟨g, cap, cur, e, hg, hc, hcap, htk⟩
 · exact absurd h0' h0
 cases e
 replace hp : Reps A w4 l vs := hp
 have hgl := (Array.getElem?_eq_some_iff.1 hc).1
 have hcell : ∀ w, Gr (fun k => w4.heap.size ≤ k) w4 w → ∀ j u, (vs.flatMap cellsOf)[j]? = some u → w.cell? ⟨g, j, none⟩ = some u := fun w gr j u hj => by
  have hc' := gr.keep hc (by omega)
  have hlt := (List.getElem?_eq_some_iff.1 hj).1
  rw [← htk] at hj
  rw [hp.cells] at hlt
  rw [List.getElem?_take_of_lt hlt] at hj
  simp only [World.cell?, hc']
  simpa using hj
 have hadd : ∀ o j, (⟨g, o, none⟩ : Addr).add j = ⟨g, o + j, none⟩ := fun o j => by unfold Addr.add; split <;> simp_all
 have hd : Reps A w4 (l.drop k) (vs.drop k) := reps_drop l vs k hp
 have ht : Reps A w4 (l.take k) (vs.take k) := reps_take l vs k hp
 refine ⟨g, vs, rfl, hgl, hcap, ?_, ?_, hd.one, ht.one, fun w gr => ⟨fun j u hj => ?_, fun j u hj => ?_, ?_, ?_⟩⟩
 · rw [hd.cells, List.length_drop]
 · rw [ht.cells, List.length_take]; congr 1; omega
 · rw [hadd]
   rw [flat_drop l vs k hp, List.getElem?_drop] at hj
   exact hcell w gr _ _ hj
 · rw [hadd, Nat.zero_add]
   refine hcell w gr _ _ ?_
   have e : vs = vs.take k ++ vs.drop k := (List.take_append_drop k vs).symm
   rw [e, List.flatMap_append, List.getElem?_append_left (List.getElem?_eq_some_iff.1 hj).1]
   exact hj
 · exact Reps.turn (fun z hz hl => ⟨hz, gr.block z hl (by have := hA z hz; omega)⟩) hd
 · exact Reps.turn (fun z hz hl => ⟨hz, gr.block z hl (by have := hA z hz; omega)⟩) ht
set_option maxRecDepth 100000 in
set_option maxHeartbeats 16000000 in
theorem turns_c (W : World) (s : ByteArray) (n : Int) (hn : 0 ≤ n ∧ n ≤ 255) (hE : Er W) (hS : Sg W) (hL : Lv W) (hB : Bu W) : Calls Tryz.prog 8 #[.string s, .int .u8 n] W fun x w' => x = .returned (.bool true) ∧ Gr (fun _ => False) W w' := by
 have hal := alive_c W hE hS hL hB
 have htc := fun w (g : Gr (fun _ => False) W w) => tree_c w s (hE.gr g (fun e => e)) (hS.gr g (fun e => e)) (hL.gr g (fun e => e) (fun e => e))
 have hck := fun w (g : Gr (fun _ => False) W w) T v hR hs => check_c w T v hR hs (Bu.gr hB g (fun e => e))
 replace htc := Lib.hid htc
 replace hck := Lib.hid hck
 clear hE hS hL hB
 go_enter Tryz.func8, Tryz.ntmps8
 go_wp2_with fail
 refine hal.mono ?_
 rintro x w1 ⟨rfl, g1⟩
 clear hal
 go_wp2_with fail
 have ht := htc.out w1 g1
 clear htc
 cases hv : textV s with
 | error p =>
  rw [hv] at ht
  clear hv
  refine ht.mono ?_
  rintro x w2 ⟨rfl, g2⟩
  go_wp2_with fail
  go_ret
  exact ⟨rfl, (g1.trans g2).trans (Gr.alloc _ _ _)⟩
 | ok T =>
  rw [hv] at ht
  obtain ⟨l, rfl⟩ := text_prog hv
  have hfew := Lib.hid (text_few hv)
  have hszs := Lib.hid (text_szs hv)
  have hlen : l.length ≤ 8009 := hfew.out _ (by rw [preL_cons]; exact List.mem_cons_self ..)
  clear hv
  refine ht.mono ?_
  rintro x w2 ⟨v, rfl, rep2, g2⟩
  obtain ⟨ba, bc, la, lc, rfl, hk⟩ := rep2.parts
  have gA := Gr.alloc w2 (.cells #[.int .i64 18, .string e0, .int .i64 0, .slice ba ([] : List Int).length bc, .slice la l.length lc] 25) (fun _ => False)
  have hA := heap_alloc_new w2 (.cells #[.int .i64 18, .string e0, .int .i64 0, .slice ba ([] : List Int).length bc, .slice la l.length lc] 25)
  have hzA : (w2.alloc (.cells #[.int .i64 18, .string e0, .int .i64 0, .slice ba ([] : List Int).length bc, .slice la l.length lc] 25)).heap.size = w2.heap.size + 1 := by simp
  have G2 := g1.trans g2
  clear ht hk
  have hlI : (l.length : Int) ≤ 8009 := by omega
  by_cases hl0 : l.length = 0
  · have q0 : ((l.length : Int) == 0) = true := by simp [hl0]
    have GF := G2.trans gA
    replace hl0 := Lib.hid hl0
    go_wp2_with fail
    go_ret
    exact ⟨rfl, GF⟩
  have q0 : ((l.length : Int) == 0) = false := by simp; intro h; exact hl0 (by rw [h]; rfl)
  go_wp2_with fail
  generalize w2.alloc _ = w3 at gA hA hzA ⊢
  obtain ⟨tb, htb⟩ : ∃ tb, w2.heap.size = tb := ⟨_, rfl⟩
  rw [htb] at hA hzA ⊢
  have rep3 : Rep (fun z => z < w3.heap.size ∧ z ≠ tb) w3 (.mk 18 e0 0 [] l) (trv 18 e0 0 (.slice ba ([] : List Int).length bc) (.slice la l.length lc)) := rep2.turn (fun z hz hl => ⟨by omega, gA.block z hl (fun e => e)⟩)
  have G3 := G2.trans gA
  have hhas := Lib.hid (has22_c w3 _ _ zV (rep3.gen.turn (A' := fun z => z < w3.heap.size) (fun z hz hl => ⟨hl, rfl⟩)))
  refine hhas.out.mono ?_
  rintro x w4 ⟨rfl, g4⟩
  clear hhas
  cases hh : inL (nms ((preL [Tr.mk 18 e0 0 [] l]).take 4000)) zV with
  | true =>
   go_wp2_with fail
   go_ret
   exact ⟨rfl, G3.trans g4⟩
  | false =>
   have hcr := Lib.hid (chk_has hh)
   clear hh
   have hA4 := g4.keep hA (fun e => e)
   have rep4 : Rep (fun z => z < w4.heap.size ∧ z ≠ tb) w4 (.mk 18 e0 0 [] l) (trv 18 e0 0 (.slice ba ([] : List Int).length bc) (.slice la l.length lc)) := rep3.turn (fun z hz hl => ⟨⟨by have := g4.size; omega, hz.2⟩, g4.block z hl (fun e => e)⟩)
   have G4 := G3.trans g4
   have htw4 : tb < w4.heap.size := (Array.getElem?_eq_some_iff.1 hA4).1
   clear rep2 rep3 hA g1 g2 g4 gA G2 G3 hzA
   obtain ⟨⟨m0, m1, m2, m3, m4⟩, _⟩ := five_cells hA4
   obtain ⟨k, hkn, hkl⟩ : ∃ k : Nat, n % (l.length : Int) = (k : Int) ∧ k < l.length := ⟨(n % (l.length : Int)).toNat, by have := Int.emod_nonneg n (b := (l.length : Int)) (by omega); omega, by have := Int.emod_lt_of_pos n (b := (l.length : Int)) (by omega); omega⟩
   obtain ⟨g, vs, rfl, hgl, hlc, hDl, hTl, hD1, hT1, hP⟩ := prog_row (k := k) rep4 (fun z hz => hz.1) hl0 hkl
   obtain ⟨i0, hi0, hzz, hz1, hz2⟩ := info_parts info25
   have hkle : k ≤ l.length := by omega
   have hkc : k ≤ lc := by omega
   have hkne : ¬ lc = k := by omega
   have hdl : (l.drop k).length = l.length - k := List.length_drop
   have htl : (l.take k).length = k := by rw [List.length_take]; omega
   replace hDl := Lib.hid hDl
   replace hTl := Lib.hid hTl
   replace hD1 := Lib.hid hD1
   replace hT1 := Lib.hid hT1
   replace hP := Lib.hid hP
   have Hn := Lib.hid hn
   have Hl0 := Lib.hid hl0
   clear hl0
   go_wp2_with fail
   rw [hkn]
   clear hn hkn
   refine wp_region_L (T := S1 tb (.slice (some ⟨g, 0, none⟩) l.length lc)) (L := 13) (by kernel_rfl) ?_
   have Gw : Gr (fun k => w4.heap.size ≤ k) w4 w4.drew := Gr.drew _ _
   have TS : S1 tb (.slice (some ⟨g, 0, none⟩) l.length lc) w4.drew := cell_gr m4 Gw (by omega)
   generalize w4.drew = w at Gw TS ⊢
   refine wpAnyL_at (i := 1) (v := ptr tb 4) (some 37) rfl rfl (by kernel_rfl) (by kernel_rfl) (by kernel_rfl) (by kernel_rfl) (by decide) (fun _ _ _ h => h) (Or.inl ⟨by rfl, ?_⟩) TS ?_
   · intro w hSw
     have hs1 : w.cell? ⟨tb, 4, none⟩ = _ := hSw
     go_simp
     try simp [hkle, hkc, hkne]
   try simp only [Act.put, sa1, sa2, sa3]
   refine wpAnyL_at (i := 2) (v := .slice (some ⟨g, 0, none⟩) l.length lc) (some 38) rfl rfl (by kernel_rfl) (by kernel_rfl) (by kernel_rfl) (by kernel_rfl) (by decide) (fun _ _ _ h => h) (Or.inl ⟨by rfl, ?_⟩) TS ?_
   · intro w hSw
     have hs1 : w.cell? ⟨tb, 4, none⟩ = _ := hSw
     go_simp
     try simp [hkle, hkc, hkne]
   try simp only [Act.put, sa1, sa2, sa3]
   refine wpAnyL_at (i := 3) (v := .int .i64 (k : Int)) (some 39) rfl rfl (by kernel_rfl) (by kernel_rfl) (by kernel_rfl) (by kernel_rfl) (by decide) (fun _ _ _ h => h) (Or.inl ⟨by rfl, ?_⟩) TS ?_
   · intro w hSw
     have hs1 : w.cell? ⟨tb, 4, none⟩ = _ := hSw
     go_simp
     try simp [hkle, hkc, hkne]
   try simp only [Act.put, sa1, sa2, sa3]
   refine wpAnyL_at (i := 4) (v := .slice (some ⟨g, k * 5, none⟩) (l.length - k) (lc - k)) (some 40) rfl rfl (by kernel_rfl) (by kernel_rfl) (by kernel_rfl) (by kernel_rfl) (by decide) (fun _ _ _ h => h) (Or.inl ⟨by rfl, ?_⟩) TS ?_
   · intro w hSw
     have hs1 : w.cell? ⟨tb, 4, none⟩ = _ := hSw
     go_simp
     try simp [hkle, hkc, hkne]
   try simp only [Act.put, sa1, sa2, sa3]
   refine wpAnyL_at (i := 6) (v := ptr tb 4) (some 42) rfl rfl (by kernel_rfl) (by kernel_rfl) (by kernel_rfl) (by kernel_rfl) (by decide) (fun _ _ _ h => h) (Or.inl ⟨by rfl, ?_⟩) TS ?_
   · intro w hSw
     have hs1 : w.cell? ⟨tb, 4, none⟩ = _ := hSw
     go_simp
     try simp [hkle, hkc, hkne]
   try simp only [Act.put, sa1, sa2, sa3]
   refine wpAnyL_at (i := 7) (v := .slice (some ⟨g, 0, none⟩) l.length lc) (some 43) rfl rfl (by kernel_rfl) (by kernel_rfl) (by kernel_rfl) (by kernel_rfl) (by decide) (fun _ _ _ h => h) (Or.inl ⟨by rfl, ?_⟩) TS ?_
   · intro w hSw
     have hs1 : w.cell? ⟨tb, 4, none⟩ = _ := hSw
     go_simp
     try simp [hkle, hkc, hkne]
   try simp only [Act.put, sa1, sa2, sa3]
   refine wpAnyL_at (i := 8) (v := .int .i64 (k : Int)) (some 44) rfl rfl (by kernel_rfl) (by kernel_rfl) (by kernel_rfl) (by kernel_rfl) (by decide) (fun _ _ _ h => h) (Or.inl ⟨by rfl, ?_⟩) TS ?_
   · intro w hSw
     have hs1 : w.cell? ⟨tb, 4, none⟩ = _ := hSw
     go_simp
     try simp [hkle, hkc, hkne]
   try simp only [Act.put, sa1, sa2, sa3]
   refine wpAnyL_at (i := 9) (v := .slice (some ⟨g, 0, none⟩) k lc) (some 45) rfl rfl (by kernel_rfl) (by kernel_rfl) (by kernel_rfl) (by kernel_rfl) (by decide) (fun _ _ _ h => h) (Or.inl ⟨by rfl, ?_⟩) TS ?_
   · intro w hSw
     have hs1 : w.cell? ⟨tb, 4, none⟩ = _ := hSw
     go_simp
     try simp [hkle, hkc, hkne]
   try simp only [Act.put, sa1, sa2, sa3]
   refine wpAnyL_two (i := 0) (j := 12) (by kernel_rfl) rfl rfl (fun K hK => ?_) (fun K hK => ?_)
   ·
    go_simp
    have rowwa := row_empty (w0 := w) (base := w4.heap.size) Gw.size
    have gg := Gr.alloc w (.cells #[] 25) (fun k => w4.heap.size ≤ k)
    have Gwa := Gw.trans gg
    have TS : S1 tb (.slice (some ⟨g, 0, none⟩) l.length lc) (w.alloc (.cells #[] 25)) := cell_gr m4 Gwa (by omega)
    have hswa : w.heap.size < (w.alloc (.cells #[] 25)).heap.size := by simp
    refine hK.out _ _ (fun _ => TS) ?_
    clear hK K gg
    generalize w.alloc (.cells #[] 25) = wa at *
    obtain ⟨gbwa, hgbwa⟩ : ∃ u, w.heap.size = u := ⟨_, rfl⟩
    rw [hgbwa] at rowwa ⊢
    try simp only [Act.put, sa1, sa2, sa3]
    refine wpAnyL_two (i := 5) (j := 12) (by kernel_rfl) rfl rfl (fun K hK => ?_) (fun K hK => ?_)
    ·
     refine step_row i0 hi0 hzz hz1 hz2 rfl _ _ rfl w4.heap.size (.slice (some ⟨gbwa, 0, none⟩) 0 0) (0) (l.length - k) ([]) ⟨g, k * 5, none⟩ (lc - k) ((vs.drop k).flatMap cellsOf) rfl rfl rowwa hDl.out (hP.out wa Gwa).1 hD1.out (by omega) Gwa.size ?_
     intro vwa1 wa1 rowwa1 gg keep
     rw [Nat.zero_add, List.nil_append] at rowwa1
     have Gwa1 := Gwa.trans gg
     have TS : S1 tb (.slice (some ⟨g, 0, none⟩) l.length lc) wa1 := cell_gr m4 Gwa1 (by omega)
     obtain ⟨awa1, cwa1, rfl⟩ := ownsRow_sv rowwa1
     refine hK.out _ _ (fun _ => TS) ?_
     clear hK K gg keep
     try simp only [Act.put, sa1, sa2, sa3]
     refine wpAnyL_two (i := 10) (j := 12) (by kernel_rfl) rfl rfl (fun K hK => ?_) (fun K hK => ?_)
     ·
      refine step_row i0 hi0 hzz hz1 hz2 rfl _ _ rfl w4.heap.size (.slice awa1 (l.length - k) cwa1) ((l.length - k)) k ((vs.drop k).flatMap cellsOf) ⟨g, 0, none⟩ lc ((vs.take k).flatMap cellsOf) rfl rfl rowwa1 hTl.out (hP.out wa1 Gwa1).2.1 hT1.out (by omega) Gwa1.size ?_
      intro vwa12 wa12 rowwa12 gg keep
      rw [Nat.sub_add_cancel hkle] at rowwa12
      have Gwa12 := Gwa1.trans gg
      have TS : S1 tb (.slice (some ⟨g, 0, none⟩) l.length lc) wa12 := cell_gr m4 Gwa12 (by omega)
      obtain ⟨awa12, cwa12, rfl⟩ := ownsRow_sv rowwa12
      refine hK.out _ _ (fun _ => TS) ?_
      clear hK K gg keep
      try simp only [Act.put, sa1, sa2, sa3]
      refine wpAnyL_two (i := 11) (j := 12) (by kernel_rfl) rfl rfl (fun K hK => ?_) (fun K hK => ?_)
      ·
       go_simp
       refine hK.out _ _ (fun _ => TS) ?_
       clear hK K
       try simp only [Act.put, sa1, sa2, sa3]
       refine wpAnyL_one (i := 12) (by kernel_rfl) rfl (fun K hK => ?_)
       go_simp
       have gz := Gr.alloc wa12 (.cells zc 25) (fun _ => False)
       have Gwa12z := Gwa12.trans (gz.any _)
       have hzwa12z := heap_alloc_new wa12 (.cells zc 25)
       have TS : S1 tb (.slice (some ⟨g, 0, none⟩) l.length lc) (wa12.alloc (.cells zc 25)) := cell_gr m4 Gwa12z (by omega)
       obtain ⟨zb, hzb⟩ : ∃ u, wa12.heap.size = u := ⟨_, rfl⟩
       have hzn : w4.heap.size ≤ zb := by have := Gwa12.size; omega
       have rowwa12z := ownsRow_gr rowwa12 gz (fun _ _ e => e)
       have hnewa12z : (.slice awa12 l.length cwa12 : Value).ownBlock ≠ some zb := fun e => by have := (ownsRow_lt rowwa12 zb e).2; omega
       refine hK.out _ _ (fun _ => TS) ?_
       clear hK K gz
       rw [hzb] at hzwa12z ⊢
       generalize wa12.alloc (.cells zc 25) = wa12z at *
       try simp only [Act.put, sa1, sa2, sa3]
       refine wpAnyL_one (i := 13) (by kernel_rfl) rfl (fun K hK => ?_)
       obtain ⟨⟨_, _, _, _, _⟩, ff0, ff1, ff2, ff3, ff4⟩ := five_cells hzwa12z
       have hzl : zb < wa12z.heap.size := (Array.getElem?_eq_some_iff.1 hzwa12z).1
       go_simp
       refine hK.out _ _ (fun h => absurd rfl h) ?_
       clear hK K
       try simp only [Act.put, sa1, sa2, sa3]
       refine wpAnyL_done (by kernel_rfl) ?_ _
       refine NoPanic.normal ?_
       have hF := turns_fin (l1 := l.drop k) (l2 := l.take k) (vs1 := vs.drop k) (vs2 := vs.take k) (v := .slice awa12 l.length cwa12) (w := wa12z) (zb := zb) Gwa12z (by rw [hdl, htl, Nat.sub_add_cancel hkle]; exact rowwa12z) (hP.out wa12z Gwa12z).2.2.1 (hP.out wa12z Gwa12z).2.2.2 (fun z hz => hz.1) hzwa12z hnewa12z hzn
       obtain ⟨wF, hwF⟩ : ∃ wF, set5 wa12z zb (.int .i64 18) (.string e0) (.int .i64 0) nl (.slice awa12 l.length cwa12) = wF := ⟨_, rfl⟩
       rw [hwF] at hF
       rw [show ((((wa12z.setCell ⟨zb, 0, none⟩ (.int .i64 18)).setCell ⟨zb, 1, none⟩ (.string e0)).setCell ⟨zb, 2, none⟩ (.int .i64 0)).setCell ⟨zb, 3, none⟩ nl).setCell ⟨zb, 4, none⟩ (.slice awa12 l.length cwa12) = wF from hwF]
       obtain ⟨F1, F2, F3⟩ := hF
       clear hwF
       have A8 := F1.keep hA4 (by omega)
       have R8 : Rep (fun z => z < w4.heap.size ∧ z ≠ tb) wF (.mk 18 e0 0 [] l) (trv 18 e0 0 (.slice ba ([] : List Int).length bc) (.slice (some ⟨g, 0, none⟩) l.length lc)) := rep4.turn (fun z hz hl => ⟨hz, F1.block z hl (by omega)⟩)
       have GF : Gr (fun _ => False) W wF := G4.trans' F1 (fun k hk e => by have := G4.size; omega)
       have hren := Lib.hid (ren_c _ wF _ _ R8 (fun z hz => by have := F1.size; omega) (fun U hU => by have := hfew.out U hU; omega))
       have htF := (Array.getElem?_eq_some_iff.1 A8).1
       have hzF := (Array.getElem?_eq_some_iff.1 F3).1
       have h2 := hcr.out
       have h3 := chk_turn l k e0 0 []
       have hs2 := Lib.hid (szs_turn k hszs.out)
       have hs3 := Lib.hid (szs_ren hszs.out)
       generalize hc : chkV (.mk 18 e0 0 [] l) = c at h2 h3
       have rU := Lib.hid F2
       clear F2
       obtain ⟨⟨t0, t1, t2, t3, t4⟩, _⟩ := five_cells A8
       have a8 := Lib.hid A8
       have r8 := Lib.hid R8
       clear rep4 G4 m0 m1 m2 m3 m4 A8 R8 F1
       go_wp2_with fail
       refine hren.out.mono ?_
       rintro x w8 ⟨v8, rfl, rep8, g8⟩
       obtain ⟨tk, tt, tn, a1, n1, c1, a2, n2, c2, rfl⟩ := rep8.agg
       have A8 := g8.keep a8.out (fun e => e)
       have Z8 := g8.keep F3 (fun e => e)
       clear t0 t1 t2 t3 t4 F3
       obtain ⟨⟨t0, t1, t2, t3, t4⟩, _⟩ := five_cells A8
       have gV := Gr.alloc w8 (.cells #[.int .i64 tk, .string tt, .int .i64 tn, .slice a1 n1 c1, .slice a2 n2 c2] 25) (fun _ => False)
       have hV := heap_alloc_new w8 (.cells #[.int .i64 tk, .string tt, .int .i64 tn, .slice a1 n1 c1, .slice a2 n2 c2] 25)
       have htw8 : tb < w8.heap.size := (Array.getElem?_eq_some_iff.1 A8).1
       have rV := Lib.hid rep8
       clear rep8 hren
       go_wp2_with fail
       generalize w8.alloc _ = w9 at gV hV ⊢
       obtain ⟨vb, hvb⟩ : ∃ vb, w8.heap.size = vb := ⟨_, rfl⟩
       rw [hvb] at hV ⊢
       have G9 := (GF.trans g8).trans gV
       have g9 := g8.trans gV
       have hc1 := hck.out w9 G9 _ _ (r8.out.gen.turn (A' := fun z => z < w9.heap.size) (fun z hz hl => ⟨Nat.lt_of_lt_of_le hl g9.size, g9.block z hl (fun e => e)⟩)) hszs.out
       rw [hc] at hc1
       refine hc1.mono ?_
       rintro x w10 ⟨rfl, g10⟩
       have Z10 := (gV.trans g10).keep Z8 (fun e => e)
       obtain ⟨⟨p0, p1, p2, p3, p4⟩, _⟩ := five_cells Z10
       have hzw10 := (Array.getElem?_eq_some_iff.1 Z10).1
       have V10 := g10.keep hV (fun e => e)
       have g910 := g9.trans g10
       have hc2 := hck.out w10 (G9.trans g10) _ _ (rU.out.gen.turn (A' := fun z => z < w10.heap.size) (fun z hz hl => ⟨Nat.lt_of_lt_of_le hl g910.size, g910.block z hl (fun e => e)⟩)) hs2.out
       rw [h3] at hc2
       replace hc2 := Lib.hid hc2
       clear hc1 t0 t1 t2 t3 t4
       go_wp2_with fail
       refine hc2.out.mono ?_
       rintro x w11 ⟨rfl, g11⟩
       have V11 := g11.keep V10 (fun e => e)
       obtain ⟨⟨y0, y1, y2, y3, y4⟩, _⟩ := five_cells V11
       have hvw11 := (Array.getElem?_eq_some_iff.1 V11).1
       have g811 := (gV.trans g10).trans g11
       have hc3 := hck.out w11 ((G9.trans g10).trans g11) _ _ (rV.out.gen.turn (A' := fun z => z < w11.heap.size) (fun z hz hl => ⟨Nat.lt_of_lt_of_le hl g811.size, g811.block z hl (fun e => e)⟩)) hs3.out
       rw [h2] at hc3
       replace hc3 := Lib.hid hc3
       clear hc2 p0 p1 p2 p3 p4
       go_wp2_with fail
       refine hc3.out.mono ?_
       rintro x w12 ⟨rfl, g12⟩
       go_wp2_with fail
       go_ret
       exact ⟨rfl, ((G9.trans g10).trans g11).trans g12⟩
      ·
       go_simp
       have gz := Gr.alloc wa12 (.cells zc 25) (fun _ => False)
       have Gwa12z := Gwa12.trans (gz.any _)
       have hzwa12z := heap_alloc_new wa12 (.cells zc 25)
       have TS : S1 tb (.slice (some ⟨g, 0, none⟩) l.length lc) (wa12.alloc (.cells zc 25)) := cell_gr m4 Gwa12z (by omega)
       obtain ⟨zb, hzb⟩ : ∃ u, wa12.heap.size = u := ⟨_, rfl⟩
       have hzn : w4.heap.size ≤ zb := by have := Gwa12.size; omega
       have rowwa12z := ownsRow_gr rowwa12 gz (fun _ _ e => e)
       have hnewa12z : (.slice awa12 l.length cwa12 : Value).ownBlock ≠ some zb := fun e => by have := (ownsRow_lt rowwa12 zb e).2; omega
       refine hK.out _ _ (fun _ => TS) ?_
       clear hK K gz
       rw [hzb] at hzwa12z ⊢
       generalize wa12.alloc (.cells zc 25) = wa12z at *
       try simp only [Act.put, sa1, sa2, sa3]
       refine wpAnyL_one (i := 11) (by kernel_rfl) rfl (fun K hK => ?_)
       go_simp
       refine hK.out _ _ (fun _ => TS) ?_
       clear hK K
       try simp only [Act.put, sa1, sa2, sa3]
       refine wpAnyL_one (i := 13) (by kernel_rfl) rfl (fun K hK => ?_)
       obtain ⟨⟨_, _, _, _, _⟩, ff0, ff1, ff2, ff3, ff4⟩ := five_cells hzwa12z
       have hzl : zb < wa12z.heap.size := (Array.getElem?_eq_some_iff.1 hzwa12z).1
       go_simp
       refine hK.out _ _ (fun h => absurd rfl h) ?_
       clear hK K
       try simp only [Act.put, sa1, sa2, sa3]
       refine wpAnyL_done (by kernel_rfl) ?_ _
       refine NoPanic.normal ?_
       have hF := turns_fin (l1 := l.drop k) (l2 := l.take k) (vs1 := vs.drop k) (vs2 := vs.take k) (v := .slice awa12 l.length cwa12) (w := wa12z) (zb := zb) Gwa12z (by rw [hdl, htl, Nat.sub_add_cancel hkle]; exact rowwa12z) (hP.out wa12z Gwa12z).2.2.1 (hP.out wa12z Gwa12z).2.2.2 (fun z hz => hz.1) hzwa12z hnewa12z hzn
       obtain ⟨wF, hwF⟩ : ∃ wF, set5 wa12z zb (.int .i64 18) (.string e0) (.int .i64 0) nl (.slice awa12 l.length cwa12) = wF := ⟨_, rfl⟩
       rw [hwF] at hF
       rw [show ((((wa12z.setCell ⟨zb, 0, none⟩ (.int .i64 18)).setCell ⟨zb, 1, none⟩ (.string e0)).setCell ⟨zb, 2, none⟩ (.int .i64 0)).setCell ⟨zb, 3, none⟩ nl).setCell ⟨zb, 4, none⟩ (.slice awa12 l.length cwa12) = wF from hwF]
       obtain ⟨F1, F2, F3⟩ := hF
       clear hwF
       have A8 := F1.keep hA4 (by omega)
       have R8 : Rep (fun z => z < w4.heap.size ∧ z ≠ tb) wF (.mk 18 e0 0 [] l) (trv 18 e0 0 (.slice ba ([] : List Int).length bc) (.slice (some ⟨g, 0, none⟩) l.length lc)) := rep4.turn (fun z hz hl => ⟨hz, F1.block z hl (by omega)⟩)
       have GF : Gr (fun _ => False) W wF := G4.trans' F1 (fun k hk e => by have := G4.size; omega)
       have hren := Lib.hid (ren_c _ wF _ _ R8 (fun z hz => by have := F1.size; omega) (fun U hU => by have := hfew.out U hU; omega))
       have htF := (Array.getElem?_eq_some_iff.1 A8).1
       have hzF := (Array.getElem?_eq_some_iff.1 F3).1
       have h2 := hcr.out
       have h3 := chk_turn l k e0 0 []
       have hs2 := Lib.hid (szs_turn k hszs.out)
       have hs3 := Lib.hid (szs_ren hszs.out)
       generalize hc : chkV (.mk 18 e0 0 [] l) = c at h2 h3
       have rU := Lib.hid F2
       clear F2
       obtain ⟨⟨t0, t1, t2, t3, t4⟩, _⟩ := five_cells A8
       have a8 := Lib.hid A8
       have r8 := Lib.hid R8
       clear rep4 G4 m0 m1 m2 m3 m4 A8 R8 F1
       go_wp2_with fail
       refine hren.out.mono ?_
       rintro x w8 ⟨v8, rfl, rep8, g8⟩
       obtain ⟨tk, tt, tn, a1, n1, c1, a2, n2, c2, rfl⟩ := rep8.agg
       have A8 := g8.keep a8.out (fun e => e)
       have Z8 := g8.keep F3 (fun e => e)
       clear t0 t1 t2 t3 t4 F3
       obtain ⟨⟨t0, t1, t2, t3, t4⟩, _⟩ := five_cells A8
       have gV := Gr.alloc w8 (.cells #[.int .i64 tk, .string tt, .int .i64 tn, .slice a1 n1 c1, .slice a2 n2 c2] 25) (fun _ => False)
       have hV := heap_alloc_new w8 (.cells #[.int .i64 tk, .string tt, .int .i64 tn, .slice a1 n1 c1, .slice a2 n2 c2] 25)
       have htw8 : tb < w8.heap.size := (Array.getElem?_eq_some_iff.1 A8).1
       have rV := Lib.hid rep8
       clear rep8 hren
       go_wp2_with fail
       generalize w8.alloc _ = w9 at gV hV ⊢
       obtain ⟨vb, hvb⟩ : ∃ vb, w8.heap.size = vb := ⟨_, rfl⟩
       rw [hvb] at hV ⊢
       have G9 := (GF.trans g8).trans gV
       have g9 := g8.trans gV
       have hc1 := hck.out w9 G9 _ _ (r8.out.gen.turn (A' := fun z => z < w9.heap.size) (fun z hz hl => ⟨Nat.lt_of_lt_of_le hl g9.size, g9.block z hl (fun e => e)⟩)) hszs.out
       rw [hc] at hc1
       refine hc1.mono ?_
       rintro x w10 ⟨rfl, g10⟩
       have Z10 := (gV.trans g10).keep Z8 (fun e => e)
       obtain ⟨⟨p0, p1, p2, p3, p4⟩, _⟩ := five_cells Z10
       have hzw10 := (Array.getElem?_eq_some_iff.1 Z10).1
       have V10 := g10.keep hV (fun e => e)
       have g910 := g9.trans g10
       have hc2 := hck.out w10 (G9.trans g10) _ _ (rU.out.gen.turn (A' := fun z => z < w10.heap.size) (fun z hz hl => ⟨Nat.lt_of_lt_of_le hl g910.size, g910.block z hl (fun e => e)⟩)) hs2.out
       rw [h3] at hc2
       replace hc2 := Lib.hid hc2
       clear hc1 t0 t1 t2 t3 t4
       go_wp2_with fail
       refine hc2.out.mono ?_
       rintro x w11 ⟨rfl, g11⟩
       have V11 := g11.keep V10 (fun e => e)
       obtain ⟨⟨y0, y1, y2, y3, y4⟩, _⟩ := five_cells V11
       have hvw11 := (Array.getElem?_eq_some_iff.1 V11).1
       have g811 := (gV.trans g10).trans g11
       have hc3 := hck.out w11 ((G9.trans g10).trans g11) _ _ (rV.out.gen.turn (A' := fun z => z < w11.heap.size) (fun z hz hl => ⟨Nat.lt_of_lt_of_le hl g811.size, g811.block z hl (fun e => e)⟩)) hs3.out
       rw [h2] at hc3
       replace hc3 := Lib.hid hc3
       clear hc2 p0 p1 p2 p3 p4
       go_wp2_with fail
       refine hc3.out.mono ?_
       rintro x w12 ⟨rfl, g12⟩
       go_wp2_with fail
       go_ret
       exact ⟨rfl, ((G9.trans g10).trans g11).trans g12⟩
     ·
      go_simp
      have gz := Gr.alloc wa1 (.cells zc 25) (fun _ => False)
      have Gwa1z := Gwa1.trans (gz.any _)
      have hzwa1z := heap_alloc_new wa1 (.cells zc 25)
      have TS : S1 tb (.slice (some ⟨g, 0, none⟩) l.length lc) (wa1.alloc (.cells zc 25)) := cell_gr m4 Gwa1z (by omega)
      obtain ⟨zb, hzb⟩ : ∃ u, wa1.heap.size = u := ⟨_, rfl⟩
      have hzn : w4.heap.size ≤ zb := by have := Gwa1.size; omega
      have rowwa1z := ownsRow_gr rowwa1 gz (fun _ _ e => e)
      have hnewa1z : (.slice awa1 (l.length - k) cwa1 : Value).ownBlock ≠ some zb := fun e => by have := (ownsRow_lt rowwa1 zb e).2; omega
      refine hK.out _ _ (fun _ => TS) ?_
      clear hK K gz
      rw [hzb] at hzwa1z ⊢
      generalize wa1.alloc (.cells zc 25) = wa1z at *
      try simp only [Act.put, sa1, sa2, sa3]
      refine wpAnyL_one (i := 10) (by kernel_rfl) rfl (fun K hK => ?_)
      refine step_row i0 hi0 hzz hz1 hz2 rfl _ _ rfl w4.heap.size (.slice awa1 (l.length - k) cwa1) ((l.length - k)) k ((vs.drop k).flatMap cellsOf) ⟨g, 0, none⟩ lc ((vs.take k).flatMap cellsOf) rfl rfl rowwa1z hTl.out (hP.out wa1z Gwa1z).2.1 hT1.out (by omega) Gwa1z.size ?_
      intro vwa1z2 wa1z2 rowwa1z2 gg keep
      rw [Nat.sub_add_cancel hkle] at rowwa1z2
      have Gwa1z2 := Gwa1z.trans gg
      have TS : S1 tb (.slice (some ⟨g, 0, none⟩) l.length lc) wa1z2 := cell_gr m4 Gwa1z2 (by omega)
      obtain ⟨hzwa1z2, hnewa1z2⟩ := keep zb _ hzwa1z hnewa1z
      obtain ⟨awa1z2, cwa1z2, rfl⟩ := ownsRow_sv rowwa1z2
      refine hK.out _ _ (fun _ => TS) ?_
      clear hK K gg keep
      try simp only [Act.put, sa1, sa2, sa3]
      refine wpAnyL_one (i := 11) (by kernel_rfl) rfl (fun K hK => ?_)
      go_simp
      refine hK.out _ _ (fun _ => TS) ?_
      clear hK K
      try simp only [Act.put, sa1, sa2, sa3]
      refine wpAnyL_one (i := 13) (by kernel_rfl) rfl (fun K hK => ?_)
      obtain ⟨⟨_, _, _, _, _⟩, ff0, ff1, ff2, ff3, ff4⟩ := five_cells hzwa1z2
      have hzl : zb < wa1z2.heap.size := (Array.getElem?_eq_some_iff.1 hzwa1z2).1
      go_simp
      refine hK.out _ _ (fun h => absurd rfl h) ?_
      clear hK K
      try simp only [Act.put, sa1, sa2, sa3]
      refine wpAnyL_done (by kernel_rfl) ?_ _
      refine NoPanic.normal ?_
      have hF := turns_fin (l1 := l.drop k) (l2 := l.take k) (vs1 := vs.drop k) (vs2 := vs.take k) (v := .slice awa1z2 l.length cwa1z2) (w := wa1z2) (zb := zb) Gwa1z2 (by rw [hdl, htl, Nat.sub_add_cancel hkle]; exact rowwa1z2) (hP.out wa1z2 Gwa1z2).2.2.1 (hP.out wa1z2 Gwa1z2).2.2.2 (fun z hz => hz.1) hzwa1z2 hnewa1z2 hzn
      obtain ⟨wF, hwF⟩ : ∃ wF, set5 wa1z2 zb (.int .i64 18) (.string e0) (.int .i64 0) nl (.slice awa1z2 l.length cwa1z2) = wF := ⟨_, rfl⟩
      rw [hwF] at hF
      rw [show ((((wa1z2.setCell ⟨zb, 0, none⟩ (.int .i64 18)).setCell ⟨zb, 1, none⟩ (.string e0)).setCell ⟨zb, 2, none⟩ (.int .i64 0)).setCell ⟨zb, 3, none⟩ nl).setCell ⟨zb, 4, none⟩ (.slice awa1z2 l.length cwa1z2) = wF from hwF]
      obtain ⟨F1, F2, F3⟩ := hF
      clear hwF
      have A8 := F1.keep hA4 (by omega)
      have R8 : Rep (fun z => z < w4.heap.size ∧ z ≠ tb) wF (.mk 18 e0 0 [] l) (trv 18 e0 0 (.slice ba ([] : List Int).length bc) (.slice (some ⟨g, 0, none⟩) l.length lc)) := rep4.turn (fun z hz hl => ⟨hz, F1.block z hl (by omega)⟩)
      have GF : Gr (fun _ => False) W wF := G4.trans' F1 (fun k hk e => by have := G4.size; omega)
      have hren := Lib.hid (ren_c _ wF _ _ R8 (fun z hz => by have := F1.size; omega) (fun U hU => by have := hfew.out U hU; omega))
      have htF := (Array.getElem?_eq_some_iff.1 A8).1
      have hzF := (Array.getElem?_eq_some_iff.1 F3).1
      have h2 := hcr.out
      have h3 := chk_turn l k e0 0 []
      have hs2 := Lib.hid (szs_turn k hszs.out)
      have hs3 := Lib.hid (szs_ren hszs.out)
      generalize hc : chkV (.mk 18 e0 0 [] l) = c at h2 h3
      have rU := Lib.hid F2
      clear F2
      obtain ⟨⟨t0, t1, t2, t3, t4⟩, _⟩ := five_cells A8
      have a8 := Lib.hid A8
      have r8 := Lib.hid R8
      clear rep4 G4 m0 m1 m2 m3 m4 A8 R8 F1
      go_wp2_with fail
      refine hren.out.mono ?_
      rintro x w8 ⟨v8, rfl, rep8, g8⟩
      obtain ⟨tk, tt, tn, a1, n1, c1, a2, n2, c2, rfl⟩ := rep8.agg
      have A8 := g8.keep a8.out (fun e => e)
      have Z8 := g8.keep F3 (fun e => e)
      clear t0 t1 t2 t3 t4 F3
      obtain ⟨⟨t0, t1, t2, t3, t4⟩, _⟩ := five_cells A8
      have gV := Gr.alloc w8 (.cells #[.int .i64 tk, .string tt, .int .i64 tn, .slice a1 n1 c1, .slice a2 n2 c2] 25) (fun _ => False)
      have hV := heap_alloc_new w8 (.cells #[.int .i64 tk, .string tt, .int .i64 tn, .slice a1 n1 c1, .slice a2 n2 c2] 25)
      have htw8 : tb < w8.heap.size := (Array.getElem?_eq_some_iff.1 A8).1
      have rV := Lib.hid rep8
      clear rep8 hren
      go_wp2_with fail
      generalize w8.alloc _ = w9 at gV hV ⊢
      obtain ⟨vb, hvb⟩ : ∃ vb, w8.heap.size = vb := ⟨_, rfl⟩
      rw [hvb] at hV ⊢
      have G9 := (GF.trans g8).trans gV
      have g9 := g8.trans gV
      have hc1 := hck.out w9 G9 _ _ (r8.out.gen.turn (A' := fun z => z < w9.heap.size) (fun z hz hl => ⟨Nat.lt_of_lt_of_le hl g9.size, g9.block z hl (fun e => e)⟩)) hszs.out
      rw [hc] at hc1
      refine hc1.mono ?_
      rintro x w10 ⟨rfl, g10⟩
      have Z10 := (gV.trans g10).keep Z8 (fun e => e)
      obtain ⟨⟨p0, p1, p2, p3, p4⟩, _⟩ := five_cells Z10
      have hzw10 := (Array.getElem?_eq_some_iff.1 Z10).1
      have V10 := g10.keep hV (fun e => e)
      have g910 := g9.trans g10
      have hc2 := hck.out w10 (G9.trans g10) _ _ (rU.out.gen.turn (A' := fun z => z < w10.heap.size) (fun z hz hl => ⟨Nat.lt_of_lt_of_le hl g910.size, g910.block z hl (fun e => e)⟩)) hs2.out
      rw [h3] at hc2
      replace hc2 := Lib.hid hc2
      clear hc1 t0 t1 t2 t3 t4
      go_wp2_with fail
      refine hc2.out.mono ?_
      rintro x w11 ⟨rfl, g11⟩
      have V11 := g11.keep V10 (fun e => e)
      obtain ⟨⟨y0, y1, y2, y3, y4⟩, _⟩ := five_cells V11
      have hvw11 := (Array.getElem?_eq_some_iff.1 V11).1
      have g811 := (gV.trans g10).trans g11
      have hc3 := hck.out w11 ((G9.trans g10).trans g11) _ _ (rV.out.gen.turn (A' := fun z => z < w11.heap.size) (fun z hz hl => ⟨Nat.lt_of_lt_of_le hl g811.size, g811.block z hl (fun e => e)⟩)) hs3.out
      rw [h2] at hc3
      replace hc3 := Lib.hid hc3
      clear hc2 p0 p1 p2 p3 p4
      go_wp2_with fail
      refine hc3.out.mono ?_
      rintro x w12 ⟨rfl, g12⟩
      go_wp2_with fail
      go_ret
      exact ⟨rfl, ((G9.trans g10).trans g11).trans g12⟩
    ·
     go_simp
     have gz := Gr.alloc wa (.cells zc 25) (fun _ => False)
     have Gwaz := Gwa.trans (gz.any _)
     have hzwaz := heap_alloc_new wa (.cells zc 25)
     have TS : S1 tb (.slice (some ⟨g, 0, none⟩) l.length lc) (wa.alloc (.cells zc 25)) := cell_gr m4 Gwaz (by omega)
     obtain ⟨zb, hzb⟩ : ∃ u, wa.heap.size = u := ⟨_, rfl⟩
     have hzn : w4.heap.size ≤ zb := by have := Gwa.size; omega
     have rowwaz := ownsRow_gr rowwa gz (fun _ _ e => e)
     have hnewaz : (.slice (some ⟨gbwa, 0, none⟩) 0 0 : Value).ownBlock ≠ some zb := fun e => by have := (ownsRow_lt rowwa zb e).2; omega
     refine hK.out _ _ (fun _ => TS) ?_
     clear hK K gz
     rw [hzb] at hzwaz ⊢
     generalize wa.alloc (.cells zc 25) = waz at *
     try simp only [Act.put, sa1, sa2, sa3]
     refine wpAnyL_one (i := 5) (by kernel_rfl) rfl (fun K hK => ?_)
     refine step_row i0 hi0 hzz hz1 hz2 rfl _ _ rfl w4.heap.size (.slice (some ⟨gbwa, 0, none⟩) 0 0) (0) (l.length - k) ([]) ⟨g, k * 5, none⟩ (lc - k) ((vs.drop k).flatMap cellsOf) rfl rfl rowwaz hDl.out (hP.out waz Gwaz).1 hD1.out (by omega) Gwaz.size ?_
     intro vwaz1 waz1 rowwaz1 gg keep
     rw [Nat.zero_add, List.nil_append] at rowwaz1
     have Gwaz1 := Gwaz.trans gg
     have TS : S1 tb (.slice (some ⟨g, 0, none⟩) l.length lc) waz1 := cell_gr m4 Gwaz1 (by omega)
     obtain ⟨hzwaz1, hnewaz1⟩ := keep zb _ hzwaz hnewaz
     obtain ⟨awaz1, cwaz1, rfl⟩ := ownsRow_sv rowwaz1
     refine hK.out _ _ (fun _ => TS) ?_
     clear hK K gg keep
     try simp only [Act.put, sa1, sa2, sa3]
     refine wpAnyL_one (i := 10) (by kernel_rfl) rfl (fun K hK => ?_)
     refine step_row i0 hi0 hzz hz1 hz2 rfl _ _ rfl w4.heap.size (.slice awaz1 (l.length - k) cwaz1) ((l.length - k)) k ((vs.drop k).flatMap cellsOf) ⟨g, 0, none⟩ lc ((vs.take k).flatMap cellsOf) rfl rfl rowwaz1 hTl.out (hP.out waz1 Gwaz1).2.1 hT1.out (by omega) Gwaz1.size ?_
     intro vwaz12 waz12 rowwaz12 gg keep
     rw [Nat.sub_add_cancel hkle] at rowwaz12
     have Gwaz12 := Gwaz1.trans gg
     have TS : S1 tb (.slice (some ⟨g, 0, none⟩) l.length lc) waz12 := cell_gr m4 Gwaz12 (by omega)
     obtain ⟨hzwaz12, hnewaz12⟩ := keep zb _ hzwaz1 hnewaz1
     obtain ⟨awaz12, cwaz12, rfl⟩ := ownsRow_sv rowwaz12
     refine hK.out _ _ (fun _ => TS) ?_
     clear hK K gg keep
     try simp only [Act.put, sa1, sa2, sa3]
     refine wpAnyL_one (i := 11) (by kernel_rfl) rfl (fun K hK => ?_)
     go_simp
     refine hK.out _ _ (fun _ => TS) ?_
     clear hK K
     try simp only [Act.put, sa1, sa2, sa3]
     refine wpAnyL_one (i := 13) (by kernel_rfl) rfl (fun K hK => ?_)
     obtain ⟨⟨_, _, _, _, _⟩, ff0, ff1, ff2, ff3, ff4⟩ := five_cells hzwaz12
     have hzl : zb < waz12.heap.size := (Array.getElem?_eq_some_iff.1 hzwaz12).1
     go_simp
     refine hK.out _ _ (fun h => absurd rfl h) ?_
     clear hK K
     try simp only [Act.put, sa1, sa2, sa3]
     refine wpAnyL_done (by kernel_rfl) ?_ _
     refine NoPanic.normal ?_
     have hF := turns_fin (l1 := l.drop k) (l2 := l.take k) (vs1 := vs.drop k) (vs2 := vs.take k) (v := .slice awaz12 l.length cwaz12) (w := waz12) (zb := zb) Gwaz12 (by rw [hdl, htl, Nat.sub_add_cancel hkle]; exact rowwaz12) (hP.out waz12 Gwaz12).2.2.1 (hP.out waz12 Gwaz12).2.2.2 (fun z hz => hz.1) hzwaz12 hnewaz12 hzn
     obtain ⟨wF, hwF⟩ : ∃ wF, set5 waz12 zb (.int .i64 18) (.string e0) (.int .i64 0) nl (.slice awaz12 l.length cwaz12) = wF := ⟨_, rfl⟩
     rw [hwF] at hF
     rw [show ((((waz12.setCell ⟨zb, 0, none⟩ (.int .i64 18)).setCell ⟨zb, 1, none⟩ (.string e0)).setCell ⟨zb, 2, none⟩ (.int .i64 0)).setCell ⟨zb, 3, none⟩ nl).setCell ⟨zb, 4, none⟩ (.slice awaz12 l.length cwaz12) = wF from hwF]
     obtain ⟨F1, F2, F3⟩ := hF
     clear hwF
     have A8 := F1.keep hA4 (by omega)
     have R8 : Rep (fun z => z < w4.heap.size ∧ z ≠ tb) wF (.mk 18 e0 0 [] l) (trv 18 e0 0 (.slice ba ([] : List Int).length bc) (.slice (some ⟨g, 0, none⟩) l.length lc)) := rep4.turn (fun z hz hl => ⟨hz, F1.block z hl (by omega)⟩)
     have GF : Gr (fun _ => False) W wF := G4.trans' F1 (fun k hk e => by have := G4.size; omega)
     have hren := Lib.hid (ren_c _ wF _ _ R8 (fun z hz => by have := F1.size; omega) (fun U hU => by have := hfew.out U hU; omega))
     have htF := (Array.getElem?_eq_some_iff.1 A8).1
     have hzF := (Array.getElem?_eq_some_iff.1 F3).1
     have h2 := hcr.out
     have h3 := chk_turn l k e0 0 []
     have hs2 := Lib.hid (szs_turn k hszs.out)
     have hs3 := Lib.hid (szs_ren hszs.out)
     generalize hc : chkV (.mk 18 e0 0 [] l) = c at h2 h3
     have rU := Lib.hid F2
     clear F2
     obtain ⟨⟨t0, t1, t2, t3, t4⟩, _⟩ := five_cells A8
     have a8 := Lib.hid A8
     have r8 := Lib.hid R8
     clear rep4 G4 m0 m1 m2 m3 m4 A8 R8 F1
     go_wp2_with fail
     refine hren.out.mono ?_
     rintro x w8 ⟨v8, rfl, rep8, g8⟩
     obtain ⟨tk, tt, tn, a1, n1, c1, a2, n2, c2, rfl⟩ := rep8.agg
     have A8 := g8.keep a8.out (fun e => e)
     have Z8 := g8.keep F3 (fun e => e)
     clear t0 t1 t2 t3 t4 F3
     obtain ⟨⟨t0, t1, t2, t3, t4⟩, _⟩ := five_cells A8
     have gV := Gr.alloc w8 (.cells #[.int .i64 tk, .string tt, .int .i64 tn, .slice a1 n1 c1, .slice a2 n2 c2] 25) (fun _ => False)
     have hV := heap_alloc_new w8 (.cells #[.int .i64 tk, .string tt, .int .i64 tn, .slice a1 n1 c1, .slice a2 n2 c2] 25)
     have htw8 : tb < w8.heap.size := (Array.getElem?_eq_some_iff.1 A8).1
     have rV := Lib.hid rep8
     clear rep8 hren
     go_wp2_with fail
     generalize w8.alloc _ = w9 at gV hV ⊢
     obtain ⟨vb, hvb⟩ : ∃ vb, w8.heap.size = vb := ⟨_, rfl⟩
     rw [hvb] at hV ⊢
     have G9 := (GF.trans g8).trans gV
     have g9 := g8.trans gV
     have hc1 := hck.out w9 G9 _ _ (r8.out.gen.turn (A' := fun z => z < w9.heap.size) (fun z hz hl => ⟨Nat.lt_of_lt_of_le hl g9.size, g9.block z hl (fun e => e)⟩)) hszs.out
     rw [hc] at hc1
     refine hc1.mono ?_
     rintro x w10 ⟨rfl, g10⟩
     have Z10 := (gV.trans g10).keep Z8 (fun e => e)
     obtain ⟨⟨p0, p1, p2, p3, p4⟩, _⟩ := five_cells Z10
     have hzw10 := (Array.getElem?_eq_some_iff.1 Z10).1
     have V10 := g10.keep hV (fun e => e)
     have g910 := g9.trans g10
     have hc2 := hck.out w10 (G9.trans g10) _ _ (rU.out.gen.turn (A' := fun z => z < w10.heap.size) (fun z hz hl => ⟨Nat.lt_of_lt_of_le hl g910.size, g910.block z hl (fun e => e)⟩)) hs2.out
     rw [h3] at hc2
     replace hc2 := Lib.hid hc2
     clear hc1 t0 t1 t2 t3 t4
     go_wp2_with fail
     refine hc2.out.mono ?_
     rintro x w11 ⟨rfl, g11⟩
     have V11 := g11.keep V10 (fun e => e)
     obtain ⟨⟨y0, y1, y2, y3, y4⟩, _⟩ := five_cells V11
     have hvw11 := (Array.getElem?_eq_some_iff.1 V11).1
     have g811 := (gV.trans g10).trans g11
     have hc3 := hck.out w11 ((G9.trans g10).trans g11) _ _ (rV.out.gen.turn (A' := fun z => z < w11.heap.size) (fun z hz hl => ⟨Nat.lt_of_lt_of_le hl g811.size, g811.block z hl (fun e => e)⟩)) hs3.out
     rw [h2] at hc3
     replace hc3 := Lib.hid hc3
     clear hc2 p0 p1 p2 p3 p4
     go_wp2_with fail
     refine hc3.out.mono ?_
     rintro x w12 ⟨rfl, g12⟩
     go_wp2_with fail
     go_ret
     exact ⟨rfl, ((G9.trans g10).trans g11).trans g12⟩
   ·
    go_simp
    have gz := Gr.alloc w (.cells zc 25) (fun _ => False)
    have Gwz := Gw.trans (gz.any _)
    have hzwz := heap_alloc_new w (.cells zc 25)
    have TS : S1 tb (.slice (some ⟨g, 0, none⟩) l.length lc) (w.alloc (.cells zc 25)) := cell_gr m4 Gwz (by omega)
    obtain ⟨zb, hzb⟩ : ∃ u, w.heap.size = u := ⟨_, rfl⟩
    have hzn : w4.heap.size ≤ zb := by have := Gw.size; omega
    refine hK.out _ _ (fun _ => TS) ?_
    clear hK K gz
    rw [hzb] at hzwz ⊢
    generalize w.alloc (.cells zc 25) = wz at *
    try simp only [Act.put, sa1, sa2, sa3]
    refine wpAnyL_one (i := 0) (by kernel_rfl) rfl (fun K hK => ?_)
    go_simp
    have rowwza := row_empty (w0 := wz) (base := w4.heap.size) Gwz.size
    have gg := Gr.alloc wz (.cells #[] 25) (fun k => w4.heap.size ≤ k)
    have Gwza := Gwz.trans gg
    have TS : S1 tb (.slice (some ⟨g, 0, none⟩) l.length lc) (wz.alloc (.cells #[] 25)) := cell_gr m4 Gwza (by omega)
    have hzwza := (Gr.alloc wz (.cells #[] 25) (fun _ => False)).keep hzwz (fun e => e)
    have hnewza : (Value.slice (some ⟨wz.heap.size, 0, none⟩) 0 0).ownBlock ≠ some zb := by
     have : zb < wz.heap.size := (Array.getElem?_eq_some_iff.1 hzwz).1
     simp [Value.ownBlock]; omega
    have hswza : wz.heap.size < (wz.alloc (.cells #[] 25)).heap.size := by simp
    refine hK.out _ _ (fun _ => TS) ?_
    clear hK K gg
    generalize wz.alloc (.cells #[] 25) = wza at *
    obtain ⟨gbwza, hgbwza⟩ : ∃ u, wz.heap.size = u := ⟨_, rfl⟩
    rw [hgbwza] at rowwza hnewza ⊢
    try simp only [Act.put, sa1, sa2, sa3]
    refine wpAnyL_one (i := 5) (by kernel_rfl) rfl (fun K hK => ?_)
    refine step_row i0 hi0 hzz hz1 hz2 rfl _ _ rfl w4.heap.size (.slice (some ⟨gbwza, 0, none⟩) 0 0) (0) (l.length - k) ([]) ⟨g, k * 5, none⟩ (lc - k) ((vs.drop k).flatMap cellsOf) rfl rfl rowwza hDl.out (hP.out wza Gwza).1 hD1.out (by omega) Gwza.size ?_
    intro vwza1 wza1 rowwza1 gg keep
    rw [Nat.zero_add, List.nil_append] at rowwza1
    have Gwza1 := Gwza.trans gg
    have TS : S1 tb (.slice (some ⟨g, 0, none⟩) l.length lc) wza1 := cell_gr m4 Gwza1 (by omega)
    obtain ⟨hzwza1, hnewza1⟩ := keep zb _ hzwza hnewza
    obtain ⟨awza1, cwza1, rfl⟩ := ownsRow_sv rowwza1
    refine hK.out _ _ (fun _ => TS) ?_
    clear hK K gg keep
    try simp only [Act.put, sa1, sa2, sa3]
    refine wpAnyL_one (i := 10) (by kernel_rfl) rfl (fun K hK => ?_)
    refine step_row i0 hi0 hzz hz1 hz2 rfl _ _ rfl w4.heap.size (.slice awza1 (l.length - k) cwza1) ((l.length - k)) k ((vs.drop k).flatMap cellsOf) ⟨g, 0, none⟩ lc ((vs.take k).flatMap cellsOf) rfl rfl rowwza1 hTl.out (hP.out wza1 Gwza1).2.1 hT1.out (by omega) Gwza1.size ?_
    intro vwza12 wza12 rowwza12 gg keep
    rw [Nat.sub_add_cancel hkle] at rowwza12
    have Gwza12 := Gwza1.trans gg
    have TS : S1 tb (.slice (some ⟨g, 0, none⟩) l.length lc) wza12 := cell_gr m4 Gwza12 (by omega)
    obtain ⟨hzwza12, hnewza12⟩ := keep zb _ hzwza1 hnewza1
    obtain ⟨awza12, cwza12, rfl⟩ := ownsRow_sv rowwza12
    refine hK.out _ _ (fun _ => TS) ?_
    clear hK K gg keep
    try simp only [Act.put, sa1, sa2, sa3]
    refine wpAnyL_one (i := 11) (by kernel_rfl) rfl (fun K hK => ?_)
    go_simp
    refine hK.out _ _ (fun _ => TS) ?_
    clear hK K
    try simp only [Act.put, sa1, sa2, sa3]
    refine wpAnyL_one (i := 13) (by kernel_rfl) rfl (fun K hK => ?_)
    obtain ⟨⟨_, _, _, _, _⟩, ff0, ff1, ff2, ff3, ff4⟩ := five_cells hzwza12
    have hzl : zb < wza12.heap.size := (Array.getElem?_eq_some_iff.1 hzwza12).1
    go_simp
    refine hK.out _ _ (fun h => absurd rfl h) ?_
    clear hK K
    try simp only [Act.put, sa1, sa2, sa3]
    refine wpAnyL_done (by kernel_rfl) ?_ _
    refine NoPanic.normal ?_
    have hF := turns_fin (l1 := l.drop k) (l2 := l.take k) (vs1 := vs.drop k) (vs2 := vs.take k) (v := .slice awza12 l.length cwza12) (w := wza12) (zb := zb) Gwza12 (by rw [hdl, htl, Nat.sub_add_cancel hkle]; exact rowwza12) (hP.out wza12 Gwza12).2.2.1 (hP.out wza12 Gwza12).2.2.2 (fun z hz => hz.1) hzwza12 hnewza12 hzn
    obtain ⟨wF, hwF⟩ : ∃ wF, set5 wza12 zb (.int .i64 18) (.string e0) (.int .i64 0) nl (.slice awza12 l.length cwza12) = wF := ⟨_, rfl⟩
    rw [hwF] at hF
    rw [show ((((wza12.setCell ⟨zb, 0, none⟩ (.int .i64 18)).setCell ⟨zb, 1, none⟩ (.string e0)).setCell ⟨zb, 2, none⟩ (.int .i64 0)).setCell ⟨zb, 3, none⟩ nl).setCell ⟨zb, 4, none⟩ (.slice awza12 l.length cwza12) = wF from hwF]
    obtain ⟨F1, F2, F3⟩ := hF
    clear hwF
    have A8 := F1.keep hA4 (by omega)
    have R8 : Rep (fun z => z < w4.heap.size ∧ z ≠ tb) wF (.mk 18 e0 0 [] l) (trv 18 e0 0 (.slice ba ([] : List Int).length bc) (.slice (some ⟨g, 0, none⟩) l.length lc)) := rep4.turn (fun z hz hl => ⟨hz, F1.block z hl (by omega)⟩)
    have GF : Gr (fun _ => False) W wF := G4.trans' F1 (fun k hk e => by have := G4.size; omega)
    have hren := Lib.hid (ren_c _ wF _ _ R8 (fun z hz => by have := F1.size; omega) (fun U hU => by have := hfew.out U hU; omega))
    have htF := (Array.getElem?_eq_some_iff.1 A8).1
    have hzF := (Array.getElem?_eq_some_iff.1 F3).1
    have h2 := hcr.out
    have h3 := chk_turn l k e0 0 []
    have hs2 := Lib.hid (szs_turn k hszs.out)
    have hs3 := Lib.hid (szs_ren hszs.out)
    generalize hc : chkV (.mk 18 e0 0 [] l) = c at h2 h3
    have rU := Lib.hid F2
    clear F2
    obtain ⟨⟨t0, t1, t2, t3, t4⟩, _⟩ := five_cells A8
    have a8 := Lib.hid A8
    have r8 := Lib.hid R8
    clear rep4 G4 m0 m1 m2 m3 m4 A8 R8 F1
    go_wp2_with fail
    refine hren.out.mono ?_
    rintro x w8 ⟨v8, rfl, rep8, g8⟩
    obtain ⟨tk, tt, tn, a1, n1, c1, a2, n2, c2, rfl⟩ := rep8.agg
    have A8 := g8.keep a8.out (fun e => e)
    have Z8 := g8.keep F3 (fun e => e)
    clear t0 t1 t2 t3 t4 F3
    obtain ⟨⟨t0, t1, t2, t3, t4⟩, _⟩ := five_cells A8
    have gV := Gr.alloc w8 (.cells #[.int .i64 tk, .string tt, .int .i64 tn, .slice a1 n1 c1, .slice a2 n2 c2] 25) (fun _ => False)
    have hV := heap_alloc_new w8 (.cells #[.int .i64 tk, .string tt, .int .i64 tn, .slice a1 n1 c1, .slice a2 n2 c2] 25)
    have htw8 : tb < w8.heap.size := (Array.getElem?_eq_some_iff.1 A8).1
    have rV := Lib.hid rep8
    clear rep8 hren
    go_wp2_with fail
    generalize w8.alloc _ = w9 at gV hV ⊢
    obtain ⟨vb, hvb⟩ : ∃ vb, w8.heap.size = vb := ⟨_, rfl⟩
    rw [hvb] at hV ⊢
    have G9 := (GF.trans g8).trans gV
    have g9 := g8.trans gV
    have hc1 := hck.out w9 G9 _ _ (r8.out.gen.turn (A' := fun z => z < w9.heap.size) (fun z hz hl => ⟨Nat.lt_of_lt_of_le hl g9.size, g9.block z hl (fun e => e)⟩)) hszs.out
    rw [hc] at hc1
    refine hc1.mono ?_
    rintro x w10 ⟨rfl, g10⟩
    have Z10 := (gV.trans g10).keep Z8 (fun e => e)
    obtain ⟨⟨p0, p1, p2, p3, p4⟩, _⟩ := five_cells Z10
    have hzw10 := (Array.getElem?_eq_some_iff.1 Z10).1
    have V10 := g10.keep hV (fun e => e)
    have g910 := g9.trans g10
    have hc2 := hck.out w10 (G9.trans g10) _ _ (rU.out.gen.turn (A' := fun z => z < w10.heap.size) (fun z hz hl => ⟨Nat.lt_of_lt_of_le hl g910.size, g910.block z hl (fun e => e)⟩)) hs2.out
    rw [h3] at hc2
    replace hc2 := Lib.hid hc2
    clear hc1 t0 t1 t2 t3 t4
    go_wp2_with fail
    refine hc2.out.mono ?_
    rintro x w11 ⟨rfl, g11⟩
    have V11 := g11.keep V10 (fun e => e)
    obtain ⟨⟨y0, y1, y2, y3, y4⟩, _⟩ := five_cells V11
    have hvw11 := (Array.getElem?_eq_some_iff.1 V11).1
    have g811 := (gV.trans g10).trans g11
    have hc3 := hck.out w11 ((G9.trans g10).trans g11) _ _ (rV.out.gen.turn (A' := fun z => z < w11.heap.size) (fun z hz hl => ⟨Nat.lt_of_lt_of_le hl g811.size, g811.block z hl (fun e => e)⟩)) hs3.out
    rw [h2] at hc3
    replace hc3 := Lib.hid hc3
    clear hc2 p0 p1 p2 p3 p4
    go_wp2_with fail
    refine hc3.out.mono ?_
    rintro x w12 ⟨rfl, g12⟩
    go_wp2_with fail
    go_ret
    exact ⟨rfl, ((G9.trans g10).trans g11).trans g12⟩
end Go.Proofs.YtjedbfbolifjjaaGreatDoor

namespace Go.Proofs.YtjedbfbolifjjaaGreatDoor
open Go.RowKit Go.Maps
theorem u8_of {n : Int} (h : (Lit.int .u8 n).wf = true) : 0 ≤ n ∧ n ≤ 255 := by
 have h' : (decide (IntKind.u8.min ≤ n) && decide (n ≤ IntKind.u8.max)) = true := h
 rw [Bool.and_eq_true, decide_eq_true_eq, decide_eq_true_eq] at h'
 exact ⟨by have := h'.1; simpa [IntKind.min, IntKind.signed] using this, by have := h'.2; simpa [IntKind.max, IntKind.signed, IntKind.bits] using this⟩
end Go.Proofs.YtjedbfbolifjjaaGreatDoor
