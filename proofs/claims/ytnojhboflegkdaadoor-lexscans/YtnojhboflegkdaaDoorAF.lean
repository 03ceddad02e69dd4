/-
  The reference's bytes within quotes.
-/
import Derived.Test.YtnojhboflegkdaaDoorAE
import Derived.Test.YtnojhboflegkdaaDoorL
import Derived.Deep.RegionLaw
set_option linter.unusedVariables false
set_option linter.unusedSimpArgs false
namespace Go.Proofs.YtnojhboflegkdaaDoor
open Go.RowKit Go.Maps
section
variable {w : World} {ops : Array Oper} {rest : List Oper} {o : Oper} {a : Act} {Q : Exit → Act → World → Prop} {K : Act → World → Prop} {E : Prop}
theorem step_fn {f t : Nat} (x : Operand) (u : Value) {M : Ending → World → Prop} (hgd : o.guard = none) (ho : o.op = .call { callee := .value (.func f), args := #[x], argTypes := #[t] }) (hx : a.eval x = u) (eg : ∀ args w, (callFunc f args).run Tryd.prog w = .ok (.enter f args) w)
    (hc : Calls Tryd.prog f #[u] w M) (h : ∀ e w', M e w' → match e with | .returned v => K (a.put o.dst v) w' | .panicked ch => Q (.panic ch) a w' | .outgrown => LetsOut Q) :
    if Region.wanted o (yielded ops a.tmps) = true then Oper.wp Tryd.prog o a w K Q else E := by
  have hw : Region.wanted o (yielded ops a.tmps) = true := by simp [Region.wanted, hgd]
  rw [if_pos hw]
  unfold Oper.wp execOp
  have hf : a.eval (.func f) = .func (.func f) #[] #[] := rfl
  simp only [ho, resolve, invoke, Deferred.ofValue, Sem.run_bind, Sem.run_pure, Result.andThen_ok, List.map_toArray, List.map_cons, List.map_nil, hx, hf, Array.append_empty, eg]
  refine (show Calls Tryd.prog f #[u] w _ from hc.mono (fun e w' hm => by cases e <;> exact h _ w' hm))
theorem step_same {f t : Nat} (x : Operand) (u v : Value) (hgd : o.guard = none) (ho : o.op = .call { callee := .value (.func f), args := #[x], argTypes := #[t] }) (hx : a.eval x = u) (eg : ∀ args w, (callFunc f args).run Tryd.prog w = .ok (.enter f args) w)
    (hc : Calls Tryd.prog f #[u] w fun e w' => e = .returned v ∧ w = w') (h : K (a.put o.dst v) w) :
    if Region.wanted o (yielded ops a.tmps) = true then Oper.wp Tryd.prog o a w K Q else E :=
  step_fn x u hgd ho hx eg hc (fun e w' hm => by obtain ⟨rfl, rfl⟩ := hm; exact h)
end
theorem thenF_le {K : Act → World → Prop} {Q : Exit → Act → World → Prop} : ∀ e a w, Exit.then K (fun _ _ _ => False) e a w → Exit.then K Q e a w
  | .normal, _, _, h => h
  | .panic _, _, _, h => h.elim
  | .ret, _, _, h => h.elim
  | .exit _, _, _, h => h.elim
  | .goto _, _, _, h => h.elim
  | .outgrown, _, _, h => h.elim
theorem eg46 : ∀ args w, (callFunc 46 args).run Tryd.prog w = .ok (.enter 46 args) w := enters_of Tryd.func46 (by kernel_rfl) rfl

/-- A row of bytes and a token's block lie apart: their types are unlike. -/
theorem Ob.ne {base : Nat} {W : World} {v : Value} {l : List Int} (h : Ob base W v l) {b : Nat} {k : Int} {s : ByteArray} {n : Int} {sv : Value} {i : Nat} (ht : Tk W b k s n sv i) : v.ownBlock ≠ some b := by
  intro e
  rcases h.row.2 with ⟨rfl, _⟩ | ⟨g, cap, cur, rfl, hg, h2, h3⟩
  · cases e
  · cases e
    unfold Tk at ht
    rw [h2] at ht
    cases ht
/-- A token's bytes at work: the token's block, its row, the answer's block. -/
structure Tw (W : World) (b1 b2 i : Nat) (w : World) (v : Value) (l : List Int) : Prop where
  tok : Tk w b2 4 e0 0 v i
  ans : Tk w b1 0 e0 0 nl 0
  row : Ob W.heap.size w v l
  gr : Gr (fun _ => False) W w
  ne : b1 ≠ b2
  new : W.heap.size ≤ b1 ∧ W.heap.size ≤ b2
theorem Tw.g0 {W : World} {b1 b2 i : Nat} {w w' : World} {v : Value} {l : List Int} (h : Tw W b1 b2 i w v l) (g : Gr (fun _ => False) w w') : Tw W b1 b2 i w' v l :=
  ⟨h.tok.gr g (fun e => e), h.ans.gr g (fun e => e), h.row.g0 g, h.gr.trans g, h.ne, h.new⟩
/-- One append, the row not yet in its place. -/
theorem Tw.loc {W : World} {b1 b2 i : Nat} {w w' : World} {v v' : Value} {l m : List Int} (h : Tw W b1 b2 i w v l) (k : Loc v w v' w') (o : Ob W.heap.size w' v' m) : Tk w' b2 4 e0 0 v i ∧ Tk w' b1 0 e0 0 nl 0 ∧ Gr (fun _ => False) W w' := by
  refine ⟨h.tok.gr k.gr (h.row.ne h.tok), h.ans.gr k.gr (h.row.ne h.ans), h.gr.trans' k.gr (fun j hj e => ?_)⟩
  have := (ownsRow_lt h.row.row j e).1
  omega
/-- One append, the row in its place. -/
theorem Tw.app {W : World} {b1 b2 i : Nat} {w w' : World} {v v' : Value} {l m : List Int} (h : Tw W b1 b2 i w v l) (k : Loc v w v' w') (o : Ob W.heap.size w' v' m) (w9 : World) (e : w'.setCell ⟨b2, 3, none⟩ v' = w9) : Tw W b1 b2 i w9 v' m := by
  subst e
  obtain ⟨h1, h2, h3⟩ := h.loc k o
  have gs : Gr (fun j => j = b2) w' (w'.setCell ⟨b2, 3, none⟩ v') := Gr.set _ _ _ rfl
  refine ⟨h1.setB v', h2.gr gs (fun e => h.ne e), o.gr gs (fun j hj e e2 => ?_), h3.trans' gs (fun j hj e => ?_), h.ne, h.new⟩
  · subst e2; exact o.ne h1 e
  · have := h.new.2; omega

theorem qts_one {s : ByteArray} {j k : Nat} {c : Int} {f : Nat} {l : List Int} (h : pk s j ≠ 34) (ho : one s j = some (c, k)) : qts s (f + 1) j l = qts s f k (l ++ [c]) := by
  rw [qts, if_neg h, ho]
theorem qts_none {s : ByteArray} {j : Nat} {f : Nat} {l : List Int} (h : pk s j ≠ 34) (ho : one s j = none) : qts s (f + 1) j l = none := by
  rw [qts, if_neg h, ho]

set_option maxRecDepth 100000 in
set_option maxHeartbeats 8000000 in
theorem text_c (W : World) (s : ByteArray) (i : Nat) (hs : s.size ≤ 60000) (hi : i < s.size) (hd : pk s i = 34) :
    Calls Tryd.prog 37 #[.string s, .int .i64 (i : Int)] W fun e w' => EndR W e w' (tokV s i) := by
  have hsI : (s.size : Int) ≤ 60000 := by omega
  have hiI : (i : Int) < 60000 := by omega
  obtain ⟨r, hr⟩ : ∃ r, r = tokV s i := ⟨_, rfl⟩
  rw [← hr]
  rw [tokV, hd, if_neg (by decide), if_pos rfl, qtd] at hr
  have Hr := Lib.hid hr
  have hyes : Hid (∀ l k, qts s (s.size + 1) (i + 1) [] = some (l, k) → r = .ok (⟨4, e0, 0, l, i⟩, k)) := Lib.hid (fun l k h => by rw [Hr.out, h])
  have hno : Hid (qts s (s.size + 1) (i + 1) [] = none → r = .error 154) := Lib.hid (fun h => by rw [Hr.out, h])
  clear hr hd Hr hs
  go_enter Tryd.func37, Tryd.ntmps37
  go_wp2_with fail
  generalize hW1 : World.alloc _ _ = w1
  have hT1 : Tw W W.heap.size (W.heap.size + 1 + 1) i w1 (.slice (some ⟨W.heap.size + 1, 0, none⟩) 0 0) [] := by
    have hg := ((Gr.alloc W (.cells #[.int .i64 0, .string ⟨#[]⟩, .int .i64 0, .slice none 0 0, .int .i64 0] 33) (fun _ => False)).trans (Gr.alloc _ (.cells #[] 5) _))
    have hn := heap_alloc_new ((W.alloc (.cells #[.int .i64 0, .string ⟨#[]⟩, .int .i64 0, .slice none 0 0, .int .i64 0] 33)).alloc (.cells #[] 5)) (.cells #[.int .i64 4, .string ⟨#[]⟩, .int .i64 0, .slice (some ⟨W.heap.size + 1, 0, none⟩) 0 0, .int .i64 (i : Int)] 33)
    have ha := heap_alloc_new W (.cells #[.int .i64 0, .string ⟨#[]⟩, .int .i64 0, .slice none 0 0, .int .i64 0] 33)
    have ho := Ob.lit W.heap.size (W.alloc (.cells #[.int .i64 0, .string ⟨#[]⟩, .int .i64 0, .slice none 0 0, .int .i64 0] 33)) [] (by simp) (by simp) #[] rfl 0 rfl
    simp only [World.size_alloc] at hn ho
    have gl := Gr.alloc ((W.alloc (.cells #[.int .i64 0, .string ⟨#[]⟩, .int .i64 0, .slice none 0 0, .int .i64 0] 33)).alloc (.cells #[] 5)) (.cells #[.int .i64 4, .string ⟨#[]⟩, .int .i64 0, .slice (some ⟨W.heap.size + 1, 0, none⟩) 0 0, .int .i64 (i : Int)] 33) (fun _ => False)
    rw [← hW1]
    exact ⟨hn, gl.keep ((Gr.alloc _ (.cells #[] 5) (fun _ => False)).keep ha (fun e => e)) (fun e => e), ho.g0 gl, hg.trans gl, by omega, by omega, by omega⟩
  clear hW1
  obtain ⟨b1, hb1⟩ : ∃ b, W.heap.size = b := ⟨_, rfl⟩
  obtain ⟨b2, hb2⟩ : ∃ b, W.heap.size + 1 + 1 = b := ⟨_, rfl⟩
  have hT2 : Hid (Tw W b1 b2 i w1 (.slice (some ⟨W.heap.size + 1, 0, none⟩) 0 0) []) := by rw [hb2] at hT1; rw [← hb1]; exact hT1
  rw [hb2, hb1]
  clear hb1 hb2 hT1
  go_loopw [8] (fun u wr => ∃ (j f : Nat) (m : List Int) (v : Value), s.size < f + j ∧ j ≤ s.size ∧ m.length ≤ j ∧ u = .int .i64 (j : Int) ∧ Hid (qts s (s.size + 1) (i + 1) [] = qts s f j m) ∧ Hid (Tw W b1 b2 i wr v m)) (fun u _ => s.size - (intOf u).toNat)
  case atStart => exact ⟨i + 1, s.size + 1, [], _, by omega, by omega, by simp, by go_num, rfl, hT2⟩
  case round =>
    obtain ⟨j, f, m, v, hf, hj, hml', rfl, Hq, HT⟩ := hrel
    have hml : Hid (m.length ≤ 60000) := by show _ ≤ _; omega
    have hml1 : Hid (m.length + 1 ≤ 1000000) := by show _ ≤ _; omega
    have hbw : Hid (W.heap.size ≤ wr.heap.size) := HT.out.gr.size
    replace hml' := Lib.hid hml'
    obtain ⟨f, rfl⟩ : ∃ g, f = g + 1 := ⟨f - 1, by omega⟩
    clear hT2
    have l1 := HT.out.ans.lt
    have l2 := HT.out.tok.lt
    obtain ⟨⟨a0, a1, a2, a3, a4⟩, b0, b1', b2', b3, b4⟩ := HT.out.ans.facts
    obtain ⟨⟨c0, c1, c2, c3, c4⟩, f0, f1, f2, f3, f4⟩ := HT.out.tok.facts
    by_cases hlt : j < s.size
    · have hjI : (j : Int) < (s.size : Int) := by omega
      have hx := ix s j hlt
      have hp := pk_lt_size hlt
      have hr0 := bt_nonneg s j
      have hr1 := bt_lt s j
      obtain ⟨c, hc⟩ : ∃ c, bt s j = c := ⟨_, rfl⟩
      rw [hc] at hx hp hr0 hr1
      have Hp := Lib.hid hp
      clear hc hp
      by_cases h34 : c = 34
      · have e : r = .ok (⟨4, e0, 0, m, i⟩, j + 1) := hyes.out m (j + 1) (by rw [Hq.out, qts, if_pos (by rw [Hp.out]; exact h34)])
        subst e
        subst h34
        obtain ⟨va, vc, rfl⟩ := HT.out.row.sv
        go_wp2_with fail
        generalize hX9 : World.setCell _ _ _ = w9
        obtain ⟨hT9, hg9⟩ := HT.out.ans.put 4 e0 0 (.slice va m.length vc) i w9 hX9
        have hgZ : Gr (fun _ => False) W w9 := HT.out.gr.trans' hg9 (fun j hj e => by have := HT.out.new; omega)
        have hrZ : w9.ownsRow W.heap.size 5 1 (.slice va m.length vc) m.length (m.map (Value.int .u8)) := (HT.out.row.gr hg9 (fun q hq e e2 => by subst e2; exact HT.out.row.ne HT.out.ans e)).row
        clear hX9 a0 a1 a2 a3 a4 b0 b1' b2' b3 b4
        obtain ⟨⟨t0, t1, t2, t3, t4⟩, -⟩ := hT9.facts
        refine bodyPost_ret (v := .tuple #[tkv 4 e0 0 (.slice va m.length vc) i, .int .i64 ((j : Int) + 1), .int .i64 0]) (by simp [results, Tryd.results37, go_sem, t0, t1, t2, t3, t4]) rfl ?_
        exact ⟨va, vc, rfl, hrZ, hgZ⟩
      · have h34' : (c == 34) = false := by simpa using h34
        have hq34 : pk s j ≠ 34 := by rw [Hp.out]; exact h34
        have hb26 := fun w => between_c c 32 126 w
        rw [btw_shw] at hb26
        by_cases hsh : shw c = false
        · have e : r = .error 154 := hno.out (by rw [Hq.out]; exact qts_none hq34 (by rw [one, Hp.out, if_neg (by rintro rfl; cases hsh), if_neg (by rw [hsh]; decide)]))
          subst e
          rw [hsh] at hb26
          clear h34 hq34
          go_wp2_with (first | (go_at_call 26; refine (hb26 _).mono ?_; rintro e w' ⟨rfl, rfl⟩))
          generalize hX9 : World.setCell _ _ _ = w9
          obtain ⟨hT9, hg9⟩ := HT.out.ans.put 0 e0 0 nl 0 w9 hX9
          have hgZ : Gr (fun _ => False) W w9 := HT.out.gr.trans' hg9 (fun j hj e => by have := HT.out.new; omega)
          clear hX9 a0 a1 a2 a3 a4 b0 b1' b2' b3 b4
          obtain ⟨⟨t0, t1, t2, t3, t4⟩, -⟩ := hT9.facts
          refine bodyPost_ret (v := .tuple #[tkv 0 e0 0 nl 0, .int .i64 (j : Int), .int .i64 154]) (by simp [results, Tryd.results37, go_sem, t0, t1, t2, t3, t4]) rfl ?_
          exact ⟨⟨_, rfl⟩, hgZ⟩
        · have hsh' : shw c = true := by simpa using hsh
          rw [hsh'] at hb26
          by_cases h92 : c = 92
          · subst h92
            clear h34 h34' hsh
            by_cases hend : j + 1 = s.size
            · have e : r = .error 154 := hno.out (by rw [Hq.out]; exact qts_none hq34 (by rw [one, Hp.out, if_pos rfl, esc, show pk s (j + 1) = 0 by rw [pk, if_neg (by omega)]]; rfl))
              subst e
              have hendB : ((j : Int) + 1 == (s.size : Int)) = true := by simp; omega
              clear hq34
              go_wp2_with (first | (go_at_call 26; refine (hb26 _).mono ?_; rintro e w' ⟨rfl, rfl⟩))
              generalize hX9 : World.setCell _ _ _ = w9
              obtain ⟨hT9, hg9⟩ := HT.out.ans.put 0 e0 0 nl 0 w9 hX9
              have hgZ : Gr (fun _ => False) W w9 := HT.out.gr.trans' hg9 (fun j hj e => by have := HT.out.new; omega)
              clear hX9 a0 a1 a2 a3 a4 b0 b1' b2' b3 b4
              obtain ⟨⟨t0, t1, t2, t3, t4⟩, -⟩ := hT9.facts
              refine bodyPost_ret (v := .tuple #[tkv 0 e0 0 nl 0, .int .i64 ((j : Int) + 1), .int .i64 154]) (by simp [results, Tryd.results37, go_sem, t0, t1, t2, t3, t4]) rfl ?_
              exact ⟨⟨_, rfl⟩, hgZ⟩
            · have hlt1 : j + 1 < s.size := by omega
              have hendB : ((j : Int) + 1 == (s.size : Int)) = false := by simp; omega
              have hj1I : (j : Int) + 1 < (s.size : Int) := by omega
              have hx1 : ∀ w, (Instr.index 9 (.string s) (.int .i64 ((j : Int) + 1))).run Tryd.prog w = .ok (.int .u8 (bt s (j + 1))) w := fun w => by
                rw [show ((j : Int) + 1) = ((j + 1 : Nat) : Int) by omega]; exact ix s (j + 1) hlt1 w
              have hp1 := pk_lt_size hlt1
              obtain ⟨d, hd⟩ : ∃ d, bt s (j + 1) = d := ⟨_, rfl⟩
              rw [hd] at hx1 hp1
              have Hp1 := Lib.hid hp1
              clear hd hp1
              have hone : Hid (∀ c k, esc s (j + 1) = some (c, k) → qts s (s.size + 1) (i + 1) [] = qts s f k (m ++ [c])) := Lib.hid (fun c k h => by rw [Hq.out]; exact qts_one hq34 (by rw [one, Hp.out, if_pos rfl]; exact h))
              have hnone : Hid (esc s (j + 1) = none → r = .error 154) := Lib.hid (fun h => hno.out (by rw [Hq.out]; exact qts_none hq34 (by rw [one, Hp.out, if_pos rfl]; exact h)))
              clear hq34
              by_cases k110 : d = 110
              · have Hn : Hid (qts s (s.size + 1) (i + 1) [] = qts s f (j + 2) (m ++ [10])) := hone.out 10 (j + 2) (by rw [esc, Hp1.out, if_pos k110])
                subst k110
                go_wp2_with (first | (go_at_call 26; refine (hb26 _).mono ?_; rintro e w' ⟨rfl, rfl⟩) | (at_builtin; refine wpList_ap rfl _ _ rfl W.heap.size v _ m [10] rfl rfl (HT.out.row.g0 (Gr.alloc wr _ _)) (Ob.lit 0 wr [10] (by simp) (Nat.zero_le _) #[.int .u8 10] rfl 1 rfl).sb hml1.out (Nat.le_trans hbw.out (Gr.alloc wr _ (fun _ => False)).size) ?_; intro v5 w5 o5 k5; obtain ⟨M, hM⟩ : ∃ M, m ++ [10] = M := ⟨_, rfl⟩; rw [hM] at o5; obtain ⟨va5, vc5, rfl⟩ := o5.sv; replace hM := Lib.hid hM; obtain ⟨h1, h2, h3⟩ := (HT.out.g0 (Gr.alloc wr _ _)).loc k5 o5; have hl5 := h1.lt; obtain ⟨⟨d0, d1, d2, d3, d4⟩, e0', e1', e2', e3', e4'⟩ := h1.facts; have O5 := Lib.hid o5; have K5 := Lib.hid k5; clear o5 k5 h1 h2 h3) | fail)
                generalize hX9 : World.setCell _ _ _ = w9
                have hT9 := (HT.out.g0 (Gr.alloc wr _ _)).app K5.out O5.out w9 hX9
                exact ⟨⟨j + 2, f, M, _, by omega, by omega, (by rw [← hM.out]; simp; have := hml'.out; omega), by go_num, (by rw [← hM.out]; exact Hn), hT9⟩, by simp [intOf]; omega⟩
              · have n110 : (d == 110) = false := by simpa using k110
                by_cases k116 : d = 116
                · have Hn : Hid (qts s (s.size + 1) (i + 1) [] = qts s f (j + 2) (m ++ [9])) := hone.out 9 (j + 2) (by rw [esc, Hp1.out, if_neg k110, if_pos k116])
                  subst k116
                  clear k110
                  go_wp2_with (first | (go_at_call 26; refine (hb26 _).mono ?_; rintro e w' ⟨rfl, rfl⟩) | (at_builtin; refine wpList_ap rfl _ _ rfl W.heap.size v _ m [9] rfl rfl (HT.out.row.g0 (Gr.alloc wr _ _)) (Ob.lit 0 wr [9] (by simp) (Nat.zero_le _) #[.int .u8 9] rfl 1 rfl).sb hml1.out (Nat.le_trans hbw.out (Gr.alloc wr _ (fun _ => False)).size) ?_; intro v5 w5 o5 k5; obtain ⟨M, hM⟩ : ∃ M, m ++ [9] = M := ⟨_, rfl⟩; rw [hM] at o5; obtain ⟨va5, vc5, rfl⟩ := o5.sv; replace hM := Lib.hid hM; obtain ⟨h1, h2, h3⟩ := (HT.out.g0 (Gr.alloc wr _ _)).loc k5 o5; have hl5 := h1.lt; obtain ⟨⟨d0, d1, d2, d3, d4⟩, e0', e1', e2', e3', e4'⟩ := h1.facts; have O5 := Lib.hid o5; have K5 := Lib.hid k5; clear o5 k5 h1 h2 h3) | fail)
                  generalize hX9 : World.setCell _ _ _ = w9
                  have hT9 := (HT.out.g0 (Gr.alloc wr _ _)).app K5.out O5.out w9 hX9
                  exact ⟨⟨j + 2, f, M, _, by omega, by omega, (by rw [← hM.out]; simp; have := hml'.out; omega), by go_num, (by rw [← hM.out]; exact Hn), hT9⟩, by simp [intOf]; omega⟩
                · have n116 : (d == 116) = false := by simpa using k116
                  by_cases kq : d = 34 ∨ d = 92
                  · have Hn : Hid (qts s (s.size + 1) (i + 1) [] = qts s f (j + 2) (m ++ [d])) := hone.out d (j + 2) (by
                      rw [esc, Hp1.out, if_neg k110, if_neg k116]
                      rcases kq with rfl | rfl
                      · rw [if_neg (by decide), if_pos rfl]
                      · rw [if_pos rfl])
                    clear k110 k116
                    have g1 : Gr (fun _ => False) wr (wr.alloc (.cells #[.int .u8 d] 5)).drew := (Gr.alloc _ _ _).trans (Gr.drew _ _)
                    have hlit : Sb (wr.alloc (.cells #[.int .u8 d] 5)).drew (.slice (some ⟨wr.heap.size, 0, none⟩) 1 1) [d] := ((Ob.lit 0 wr [d] (by simp) (Nat.zero_le _) #[.int .u8 d] rfl 1 rfl).g0 (Gr.drew _ _)).sb
                    replace g1 := Lib.hid g1
                    replace hlit := Lib.hid hlit
                    rcases kq with rfl | rfl
                    · go_wp2_with (first | (go_at_call 26; refine (hb26 _).mono ?_; rintro e w' ⟨rfl, rfl⟩))
                      refine wp_region_noPanic ?_
                      go_region_law
                        (first
                          | (refine step_ap rfl _ _ rfl W.heap.size v _ m [34] rfl rfl (HT.out.row.g0 g1.out) hlit.out hml1.out (Nat.le_trans hbw.out g1.out.size) ?_; intro v5 w5 o5 k5; obtain ⟨M, hM⟩ : ∃ M, m ++ [34] = M := ⟨_, rfl⟩; rw [hM] at o5; obtain ⟨va5, vc5, rfl⟩ := o5.sv; replace hM := Lib.hid hM; obtain ⟨h1, h2, h3⟩ := (HT.out.g0 g1.out).loc k5 o5; have hl5 := h1.lt; obtain ⟨⟨d0, d1, d2, d3, d4⟩, e0', e1', e2', e3', e4'⟩ := h1.facts; have O5 := Lib.hid o5; have K5 := Lib.hid k5; clear o5 k5 h1 h2 h3)
                          | fail)
                      all_goals
                        try refine NoPanic.normal ?_
                        go_wp2_with fail
                        generalize hX9 : World.setCell _ _ _ = w9
                        have hT9 := (HT.out.g0 g1.out).app K5.out O5.out w9 hX9
                        exact ⟨⟨j + 2, f, M, _, by omega, by omega, (by rw [← hM.out]; simp; have := hml'.out; omega), by go_num, (by rw [← hM.out]; exact Hn), hT9⟩, by simp [intOf]; omega⟩
                    · go_wp2_with (first | (go_at_call 26; refine (hb26 _).mono ?_; rintro e w' ⟨rfl, rfl⟩))
                      refine wp_region_noPanic ?_
                      go_region_law
                        (first
                          | (refine step_ap rfl _ _ rfl W.heap.size v _ m [92] rfl rfl (HT.out.row.g0 g1.out) hlit.out hml1.out (Nat.le_trans hbw.out g1.out.size) ?_; intro v5 w5 o5 k5; obtain ⟨M, hM⟩ : ∃ M, m ++ [92] = M := ⟨_, rfl⟩; rw [hM] at o5; obtain ⟨va5, vc5, rfl⟩ := o5.sv; replace hM := Lib.hid hM; obtain ⟨h1, h2, h3⟩ := (HT.out.g0 g1.out).loc k5 o5; have hl5 := h1.lt; obtain ⟨⟨d0, d1, d2, d3, d4⟩, e0', e1', e2', e3', e4'⟩ := h1.facts; have O5 := Lib.hid o5; have K5 := Lib.hid k5; clear o5 k5 h1 h2 h3)
                          | fail)
                      all_goals
                        try refine NoPanic.normal ?_
                        go_wp2_with fail
                        generalize hX9 : World.setCell _ _ _ = w9
                        have hT9 := (HT.out.g0 g1.out).app K5.out O5.out w9 hX9
                        exact ⟨⟨j + 2, f, M, _, by omega, by omega, (by rw [← hM.out]; simp; have := hml'.out; omega), by go_num, (by rw [← hM.out]; exact Hn), hT9⟩, by simp [intOf]; omega⟩
                  · have n34 : (d == 34) = false := by simp; omega
                    have n92 : (d == 92) = false := by simp; omega
                    have k34 : ¬ d = 34 := fun e => kq (.inl e)
                    have k92 : ¬ d = 92 := fun e => kq (.inr e)
                    by_cases kx : d = 120
                    · have hesc : Hid (esc s (j + 1) = if 0 ≤ hexv (pk s (j + 2)) ∧ 0 ≤ hexv (pk s (j + 3)) then some (hexv (pk s (j + 2)) * 16 + hexv (pk s (j + 3)), j + 4) else none) := by
                        show _ = _
                        rw [esc, Hp1.out, if_neg k110, if_neg k116, if_neg k92, if_neg k34, if_pos kx]
                      subst kx
                      clear k110 k116 k34 k92 kq
                      by_cases hge : s.size ≤ j + 3
                      · have e : r = .error 154 := hnone.out (by rw [hesc.out, if_neg]; rintro ⟨-, h3⟩; rw [show pk s (j + 3) = 0 by rw [pk, if_neg (by omega)]] at h3; exact absurd h3 (by decide))
                        subst e
                        have hgeI : (s.size : Int) ≤ (j : Int) + 1 + 2 := by omega
                        clear hge
                        go_wp2_with (first | (go_at_call 26; refine (hb26 _).mono ?_; rintro e w' ⟨rfl, rfl⟩))
                        generalize hX9 : World.setCell _ _ _ = w9
                        obtain ⟨hT9, hg9⟩ := HT.out.ans.put 0 e0 0 nl 0 w9 hX9
                        have hgZ : Gr (fun _ => False) W w9 := HT.out.gr.trans' hg9 (fun j hj e => by have := HT.out.new; omega)
                        clear hX9 a0 a1 a2 a3 a4 b0 b1' b2' b3 b4
                        obtain ⟨⟨t0, t1, t2, t3, t4⟩, -⟩ := hT9.facts
                        refine bodyPost_ret (v := .tuple #[tkv 0 e0 0 nl 0, .int .i64 ((j : Int) + 1), .int .i64 154]) (by simp [results, Tryd.results37, go_sem, t0, t1, t2, t3, t4]) rfl ?_
                        exact ⟨⟨_, rfl⟩, hgZ⟩
                      · have hgeI : decide ((s.size : Int) ≤ (j : Int) + 1 + 2) = false := by simp; omega
                        have hj3I : (j : Int) + 3 < (s.size : Int) := by omega
                        have hx2 : ∀ w, (Instr.index 9 (.string s) (.int .i64 ((j : Int) + 1 + 1))).run Tryd.prog w = .ok (.int .u8 (bt s (j + 2))) w := fun w => by
                          rw [show ((j : Int) + 1 + 1) = ((j + 2 : Nat) : Int) by omega]; exact ix s (j + 2) (by omega) w
                        have hx3 : ∀ w, (Instr.index 9 (.string s) (.int .i64 ((j : Int) + 1 + 2))).run Tryd.prog w = .ok (.int .u8 (bt s (j + 3))) w := fun w => by
                          rw [show ((j : Int) + 1 + 2) = ((j + 3 : Nat) : Int) by omega]; exact ix s (j + 3) (by omega) w
                        have hd2 := fun w => digitr_c (bt s (j + 2)) (bt_nonneg _ _) (bt_lt _ _) w
                        have hd3 := fun w => digitr_c (bt s (j + 3)) (bt_nonneg _ _) (bt_lt _ _) w
                        have z2 := hexv_lt (bt s (j + 2))
                        have z3 := hexv_lt (bt s (j + 3))
                        have hw2 : IntKind.i64.wrap ((j : Int) + 1 + 1) = (j : Int) + 1 + 1 := by rw [IntKind.wrap_i64]; omega
                        have hw3 : IntKind.i64.wrap ((j : Int) + 1 + 2) = (j : Int) + 1 + 2 := by rw [IntKind.wrap_i64]; omega
                        replace hesc : Hid (esc s (j + 1) = if 0 ≤ hexv (bt s (j + 2)) ∧ 0 ≤ hexv (bt s (j + 3)) then some (hexv (bt s (j + 2)) * 16 + hexv (bt s (j + 3)), j + 4) else none) := by
                          have := hesc.out
                          rw [pk_lt_size (show j + 2 < s.size by omega), pk_lt_size (show j + 3 < s.size by omega)] at this
                          exact this
                        generalize hexv (bt s (j + 2)) = y2 at hd2 z2 hesc
                        generalize hexv (bt s (j + 3)) = y3 at hd3 z3 hesc
                        generalize bt s (j + 2) = g2 at hx2 hd2
                        generalize bt s (j + 3) = g3 at hx3 hd3
                        clear hge
                        by_cases hy2 : y2 < 0
                        · have e : r = .error 154 := hnone.out (by rw [hesc.out, if_neg]; rintro ⟨h2, -⟩; omega)
                          subst e
                          go_wp2_with (first | (go_at_call 26; refine (hb26 _).mono ?_; rintro e w' ⟨rfl, rfl⟩) | fail)
                          refine (hd2 _).mono ?_
                          rintro e w' ⟨rfl, rfl⟩
                          go_wp2_with fail
                          generalize hX9 : World.setCell _ _ _ = w9
                          obtain ⟨hT9, hg9⟩ := HT.out.ans.put 0 e0 0 nl 0 w9 hX9
                          have hgZ : Gr (fun _ => False) W w9 := HT.out.gr.trans' hg9 (fun j hj e => by have := HT.out.new; omega)
                          clear hX9 a0 a1 a2 a3 a4 b0 b1' b2' b3 b4
                          obtain ⟨⟨t0, t1, t2, t3, t4⟩, -⟩ := hT9.facts
                          refine bodyPost_ret (v := .tuple #[tkv 0 e0 0 nl 0, .int .i64 ((j : Int) + 1), .int .i64 154]) (by simp [results, Tryd.results37, go_sem, t0, t1, t2, t3, t4]) rfl ?_
                          exact ⟨⟨_, rfl⟩, hgZ⟩
                        · have hy2d : decide (y2 < 0) = false := decide_eq_false hy2
                          by_cases hy3 : y3 < 0
                          · have e : r = .error 154 := hnone.out (by rw [hesc.out, if_neg]; rintro ⟨-, h3⟩; omega)
                            subst e
                            clear hy2
                            go_wp2_with (first | (go_at_call 26; refine (hb26 _).mono ?_; rintro e w' ⟨rfl, rfl⟩) | fail)
                            refine (hd2 _).mono ?_
                            rintro e w' ⟨rfl, rfl⟩
                            go_wp2_with fail
                            refine (hd3 _).mono ?_
                            rintro e w' ⟨rfl, rfl⟩
                            go_wp2_with fail
                            generalize hX9 : World.setCell _ _ _ = w9
                            obtain ⟨hT9, hg9⟩ := HT.out.ans.put 0 e0 0 nl 0 w9 hX9
                            have hgZ : Gr (fun _ => False) W w9 := HT.out.gr.trans' hg9 (fun j hj e => by have := HT.out.new; omega)
                            clear hX9 a0 a1 a2 a3 a4 b0 b1' b2' b3 b4
                            obtain ⟨⟨t0, t1, t2, t3, t4⟩, -⟩ := hT9.facts
                            refine bodyPost_ret (v := .tuple #[tkv 0 e0 0 nl 0, .int .i64 ((j : Int) + 1), .int .i64 154]) (by simp [results, Tryd.results37, go_sem, t0, t1, t2, t3, t4]) rfl ?_
                            exact ⟨⟨_, rfl⟩, hgZ⟩
                          · have hy3d : decide (y3 < 0) = false := decide_eq_false hy3
                            have hy20 : 0 ≤ y2 := by omega
                            have hy30 : 0 ≤ y3 := by omega
                            obtain ⟨D, hD⟩ : ∃ D, 16 * y2 + y3 = D := ⟨_, rfl⟩
                            have hD0 : 0 ≤ D := by omega
                            have hD1 : D < 256 := by omega
                            have Hn : Hid (qts s (s.size + 1) (i + 1) [] = qts s f (j + 4) (m ++ [D])) := hone.out D (j + 4) (by rw [hesc.out, if_pos ⟨hy20, hy30⟩]; congr 2; omega)
                            have hwa : IntKind.i64.wrap (16 * y2) = 16 * y2 := by rw [IntKind.wrap_i64]; omega
                            have hwb : IntKind.i64.wrap D = D := by rw [IntKind.wrap_i64]; omega
                            have hwc : IntKind.u8.wrap D = D := by rw [IntKind.wrap_u8]; omega
                            have hwd : D % 256 = D := by omega
                            have g1 : Gr (fun _ => False) wr (wr.alloc (.cells #[.int .u8 D] 5)).drew := (Gr.alloc _ _ _).trans (Gr.drew _ _)
                            have hlit : Sb (wr.alloc (.cells #[.int .u8 D] 5)).drew (.slice (some ⟨wr.heap.size, 0, none⟩) 1 1) [D] := ((Ob.lit 0 wr [D] (by simp) (Nat.zero_le _) #[.int .u8 D] rfl 1 rfl).g0 (Gr.drew _ _)).sb
                            replace g1 := Lib.hid g1
                            replace hlit := Lib.hid hlit
                            clear hy2 hy3
                            go_wp2_with (first | (go_at_call 26; refine (hb26 _).mono ?_; rintro e w' ⟨rfl, rfl⟩) | fail)
                            refine (hd2 _).mono ?_
                            rintro e w' ⟨rfl, rfl⟩
                            go_wp2_with fail
                            refine (hd3 _).mono ?_
                            rintro e w' ⟨rfl, rfl⟩
                            go_wp2_with fail
                            refine wp_region_noPanic ?_
                            go_region_law
                              (first
                                | (refine step_same _ (.int .u8 g2) (.int .i64 y2) rfl rfl rfl eg46 (hd2 _) ?_)
                                | (refine step_same _ (.int .u8 g3) (.int .i64 y3) rfl rfl rfl eg46 (hd3 _) ?_)
                                | (refine step_ap rfl _ _ rfl W.heap.size v _ m [D] rfl rfl (HT.out.row.g0 g1.out) hlit.out hml1.out (Nat.le_trans hbw.out g1.out.size) ?_; intro v5 w5 o5 k5; obtain ⟨M, hM⟩ : ∃ M, m ++ [D] = M := ⟨_, rfl⟩; rw [hM] at o5; obtain ⟨va5, vc5, rfl⟩ := o5.sv; replace hM := Lib.hid hM; obtain ⟨h1, h2, h3⟩ := (HT.out.g0 g1.out).loc k5 o5; have hl5 := h1.lt; obtain ⟨⟨d0, d1, d2, d3, d4⟩, e0', e1', e2', e3', e4'⟩ := h1.facts; have O5 := Lib.hid o5; have K5 := Lib.hid k5; clear o5 k5 h1 h2 h3)
                                | fail)
                            all_goals
                              try refine NoPanic.normal ?_
                              go_wp2_with fail
                              generalize hX9 : World.setCell _ _ _ = w9
                              have hT9 := (HT.out.g0 g1.out).app K5.out O5.out w9 hX9
                              exact ⟨⟨j + 4, f, M, _, by omega, by omega, (by rw [← hM.out]; simp; have := hml'.out; omega), by go_num, (by rw [← hM.out]; exact Hn), hT9⟩, by simp [intOf]; omega⟩
                    · have e : r = .error 154 := hnone.out (by rw [esc, Hp1.out, if_neg k110, if_neg k116, if_neg k92, if_neg k34, if_neg kx])
                      subst e
                      have n120 : (d == 120) = false := by simpa using kx
                      clear k110 k116 k34 k92 kq kx
                      go_wp2_with (first | (go_at_call 26; refine (hb26 _).mono ?_; rintro e w' ⟨rfl, rfl⟩))
                      generalize hX9 : World.setCell _ _ _ = w9
                      obtain ⟨hT9, hg9⟩ := HT.out.ans.put 0 e0 0 nl 0 w9 hX9
                      have hgZ : Gr (fun _ => False) W w9 := HT.out.gr.trans' hg9 (fun j hj e => by have := HT.out.new; omega)
                      clear hX9 a0 a1 a2 a3 a4 b0 b1' b2' b3 b4
                      obtain ⟨⟨t0, t1, t2, t3, t4⟩, -⟩ := hT9.facts
                      refine bodyPost_ret (v := .tuple #[tkv 0 e0 0 nl 0, .int .i64 ((j : Int) + 1), .int .i64 154]) (by simp [results, Tryd.results37, go_sem, t0, t1, t2, t3, t4]) rfl ?_
                      exact ⟨⟨_, rfl⟩, hgZ⟩
          · have h92' : (c != 92) = true := by rw [bne_iff_ne]; exact h92
            have Hn : Hid (qts s (s.size + 1) (i + 1) [] = qts s f (j + 1) (m ++ [c])) := by
              show _ = _
              rw [Hq.out]; exact qts_one hq34 (by rw [one, Hp.out, if_neg h92, if_pos hsh'])
            clear h34 hq34 h92 hsh
            go_wp2_with (first | (go_at_call 26; refine (hb26 _).mono ?_; rintro e w' ⟨rfl, rfl⟩) | (at_builtin; refine wpList_ap rfl _ _ rfl W.heap.size v _ m [c] rfl rfl (HT.out.row.g0 (Gr.alloc wr _ _)) (Ob.lit 0 wr [c] (by simp) (Nat.zero_le _) #[.int .u8 c] rfl 1 rfl).sb hml1.out (Nat.le_trans hbw.out (Gr.alloc wr _ (fun _ => False)).size) ?_; intro v5 w5 o5 k5; obtain ⟨M, hM⟩ : ∃ M, m ++ [c] = M := ⟨_, rfl⟩; rw [hM] at o5; obtain ⟨va5, vc5, rfl⟩ := o5.sv; replace hM := Lib.hid hM; obtain ⟨h1, h2, h3⟩ := (HT.out.g0 (Gr.alloc wr _ _)).loc k5 o5; have hl5 := h1.lt; obtain ⟨⟨d0, d1, d2, d3, d4⟩, e0', e1', e2', e3', e4'⟩ := h1.facts; have O5 := Lib.hid o5; have K5 := Lib.hid k5; clear o5 k5 h1 h2 h3) | fail)
            generalize hX9 : World.setCell _ _ _ = w9
            have hT9 := (HT.out.g0 (Gr.alloc wr _ _)).app K5.out O5.out w9 hX9
            exact ⟨⟨j + 1, f, M, _, by omega, by omega, (by rw [← hM.out]; simp; have := hml'.out; omega), by go_num, (by rw [← hM.out]; exact Hn), hT9⟩, by simp [intOf]; omega⟩
    · obtain rfl : j = s.size := by omega
      have e : r = .error 154 := hno.out (by rw [Hq.out]; exact qts_none (by rw [pk, if_neg (by omega)]; decide) (by rw [one, show pk s s.size = 0 by rw [pk, if_neg (by omega)]]; rfl))
      subst e
      go_wp2_with fail
      generalize hX9 : World.setCell _ _ _ = w9
      obtain ⟨hT9, hg9⟩ := HT.out.ans.put 0 e0 0 nl 0 w9 hX9
      have hgZ : Gr (fun _ => False) W w9 := HT.out.gr.trans' hg9 (fun j hj e => by have := HT.out.new; omega)
      clear hX9 a0 a1 a2 a3 a4 b0 b1' b2' b3 b4
      obtain ⟨⟨t0, t1, t2, t3, t4⟩, -⟩ := hT9.facts
      refine bodyPost_ret (v := .tuple #[tkv 0 e0 0 nl 0, .int .i64 (s.size : Int), .int .i64 154]) (by simp [results, Tryd.results37, go_sem, t0, t1, t2, t3, t4]) rfl ?_
      exact ⟨⟨_, rfl⟩, hgZ⟩
end Go.Proofs.YtnojhboflegkdaaDoor
