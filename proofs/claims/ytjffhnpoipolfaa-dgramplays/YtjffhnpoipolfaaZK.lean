/-
  The reference's Do: Wipe.
-/
import Derived.Test.YtjffhnpoipolfaaZF
set_option linter.unusedVariables false
set_option linter.unusedSimpArgs false
namespace Go.Proofs.Ytjffhnpoipolfaa
open Go.RowKit Go.Maps Go.WideMaps
variable {S S' Y : Nat → Prop} {W W1 W' : World}

/-- Those that stay. -/
abbrev stay (l : List Dx) (f : Int) : List Dx := l.filter (fun d => !(d.t == f))
def part (l : List Dx) (f : Int) (j : Nat) : List Dx := l.take j ++ stay (l.drop j) f
theorem part_all (l : List Dx) (f : Int) : part l f l.length = l := by simp [part, stay]
theorem part_zero (l : List Dx) (f : Int) : part l f 0 = stay l f := by simp [part]
theorem part_get {l : List Dx} {f : Int} {j : Nat} {d : Dx} (h : l[j]? = some d) : (part l f (j + 1))[j]? = some d := by
  have hj : j < l.length := (List.getElem?_eq_some_iff.1 h).1
  rw [part, List.getElem?_append_left (by rw [List.length_take]; omega), List.getElem?_take_of_lt (by omega), h]
theorem part_step {l : List Dx} {f : Int} {j : Nat} {d : Dx} (h : l[j]? = some d) : part l f j = if d.t = f then (part l f (j + 1)).eraseIdx j else part l f (j + 1) := by
  have hj : j < l.length := (List.getElem?_eq_some_iff.1 h).1
  have e1 : l.take (j + 1) = l.take j ++ [d] := by rw [List.take_add_one, h]; rfl
  have e2 : l.drop j = d :: l.drop (j + 1) := by rw [List.drop_eq_getElem_cons hj]; congr 1; exact (List.getElem?_eq_some_iff.1 h).2
  have el : (l.take j).length = j := by rw [List.length_take]; omega
  by_cases hd : d.t = f
  · rw [if_pos hd, part, part, e1, e2, List.append_assoc, List.eraseIdx_append_of_length_le (by omega), el, Nat.sub_self]
    simp [stay, List.filter_cons, hd]
  · rw [if_neg hd, part, part, e1, e2]
    simp [stay, List.filter_cons, hd]
theorem part_mem {l : List Dx} {f : Int} {j : Nat} {d : Dx} (h : d ∈ part l f j) : d ∈ l := by
  rcases List.mem_append.1 h with h | h
  · exact List.mem_of_mem_take h
  · exact List.mem_of_mem_drop (List.mem_filter.1 h).1
theorem part_len (l : List Dx) (f : Int) (j : Nat) : (part l f j).length ≤ l.length := by
  have h1 := List.length_filter_le (fun d : Dx => !(d.t == f)) (l.drop j)
  simp only [part, List.length_append, List.length_take]
  have h2 : (l.drop j).length = l.length - j := List.length_drop
  simp only [stay]
  omega
section
variable {w : World} {ops : Array Oper} {o : Oper} {a : Act} {Q : Exit → Act → World → Prop} {K : Act → World → Prop} {E : Prop}
theorem step_box (x y : Operand) (nodes : Int) (sent : Nat) (wv bv : Value) (lost : Nat) (k : Int) (l : List Dx) (hgd : o.guard = none) (ho : o.op = .call { callee := .value (.func 19), args := #[x, y], argTypes := #[32, 3] }) (hx : a.eval x = rv nodes sent wv bv lost) (hy : a.eval y = .int .i64 k) (h : w.ownsRow 0 39 5 bv l.length (flatX l)) (hl : (l.length : Int) ≤ 1000000)
    (hK : ∀ w', G0 w w' → K (a.put o.dst (.int .i64 (cnt l k : Int))) w') :
    if Region.wanted o (yielded ops a.tmps) = true then Oper.wp Try.prog o a w K Q else E :=
  step_fn2 x y _ _ hgd ho hx hy (enters_of Try.func19 (by kernel_rfl) rfl) (box_r w nodes sent wv bv lost k l h hl) (fun e w' hm => by obtain ⟨rfl, h1⟩ := hm; exact hK w' h1)
end
theorem b5_set4 {W0 : World} {nodes : Int} {sent : Nat} {wv bv : Value} {lost : Nat} {k f t i a m : Int} {ob : Value} (h : B5 W0 W nodes sent wv bv lost k f t i a m ob) (n : Nat) : B5 W0 (W.setCell ⟨W0.heap.size, 4, none⟩ (.int .i64 (n : Int))) nodes sent wv bv n k f t i a m ob :=
  ⟨heap_setCell_same W W0.heap.size 4 _ 32 _ h.xa, (keep1 (by omega) _).trans h.xb, (keep1 (by omega) _).trans h.xc, (keep1 (by omega) _).trans h.xd, (keep1 (by omega) _).trans h.xe, h.xg.cell _ _ (.inr (Nat.le_refl _))⟩
theorem b5_set3 {W0 : World} {nodes : Int} {sent : Nat} {wv bv : Value} {lost : Nat} {k f t i a m : Int} {ob : Value} (h : B5 W0 W nodes sent wv bv lost k f t i a m ob) (v : Value) : B5 W0 (W.setCell ⟨W0.heap.size, 3, none⟩ v) nodes sent wv v lost k f t i a m ob :=
  ⟨heap_setCell_same W W0.heap.size 3 _ 32 _ h.xa, (keep1 (by omega) _).trans h.xb, (keep1 (by omega) _).trans h.xc, (keep1 (by omega) _).trans h.xd, (keep1 (by omega) _).trans h.xe, h.xg.cell _ _ (.inr (Nat.le_refl _))⟩
set_option maxRecDepth 20000 in
set_option maxHeartbeats 4000000 in
theorem do6_ok (W : World) (nodes : Int) (sent : Nat) (wa : Option Addr) (wl wc : Nat) (bv : Value) (lb : List Dx) (lost : Nat) (f t i a m : Int) (oa : Option Addr) (ol oc : Nat) (h : Rg Y W bv lb) (hY : ∀ k, Y k → k < W.heap.size) (hlb : (lb.length : Int) ≤ 30000) (hlo : (lost : Int) ≤ 1000000000) (hf : nod f nodes = true) :
    Calls Try.prog 13 #[rv nodes sent (.slice wa wl wc) bv lost, ov 6 f t i a m (.slice oa ol oc)] W (EndD W (fun w' nv dd ok c => c = 0 ∧ ok = false ∧ dd = zdv ∧ ∃ bv', nv = rv nodes sent (.slice wa wl wc) bv' (lost + cnt lb f) ∧ Rg (fun k => Y k ∨ W.heap.size ≤ k) w' bv' (stay lb f))) := by
  obtain ⟨ba, bc, rfl, hc1, hc2⟩ := ownsRow_sv h.row
  have HB := Lib.hid (b5_new W nodes sent (.slice wa wl wc) (.slice ba lb.length bc) lost 6 f t i a m (.slice oa ol oc))
  have hn1 := fun w => node_r w nodes sent (.slice wa wl wc) (.slice ba lb.length bc) lost f
  rw [hf] at hn1
  have Hh := Lib.hid h
  have HY := Lib.hid hY
  have hcn : (cnt lb f : Int) ≤ 30000 := by have := List.length_filter_le (fun d : Dx => d.t == f) lb; unfold cnt; omega
  obtain ⟨cx, hcx⟩ : ∃ cx, cnt lb f = cx := ⟨_, rfl⟩
  rw [hcx] at hcn ⊢
  have Hcx := Lib.hid hcx
  clear h hY hcx
  go_enter Try.func13, Try.ntmps13
  go_wp2_with fail
  refine (hn1 _).mono ?_
  rintro e w1 ⟨rfl, hg1⟩
  have X1 := Lib.hid (HB.out.g0 hg1)
  clear hg1
  obtain ⟨a01, a11, a21, a31, a41, _, _, _, _, fa41⟩ := five X1.out.xa
  obtain ⟨b01, b11, b21, b31, b41, b51, b61⟩ := seven X1.out.xb
  go_wp2_with fail
  go_region_law (first
    | (refine step_box _ _ nodes sent (.slice wa wl wc) (.slice ba lb.length bc) lost f lb rfl rfl rfl rfl (ownsRow_g0 Hh.out.row (X1.out.xg.trans (Gr.drew _ _))) (by omega) ?_; rw [Hcx.out]; intro w2 hg2; have X2 := Lib.hid (X1.out.g0 ((Gr.drew _ _).trans hg2)); obtain ⟨a02, a12, a22, a32, a42, _, _, _, _, fa42⟩ := five X2.out.xa; clear hg2)
    | fail)
  all_goals
    go_wp2_with fail
    obtain ⟨L, hL⟩ : ∃ L, lost + cx = L := ⟨_, rfl⟩
    rw [show (lost : Int) + (cx : Int) = (L : Int) by omega]
    have X3 := b5_set4 X2.out L
    generalize World.setCell w2 ⟨W.heap.size, 4, none⟩ (.int .i64 (L : Int)) = w3 at X3 ⊢
    have HL := Lib.hid hL
    have HX3 := Lib.hid X3
    have hs3 : W.heap.size + 1 + 1 + 1 + 1 < w3.heap.size := lt_of_blk X3.xe
    clear hL X3 a02 a12 a22 a32 a42 fa42
    go_loopw [9] (fun x wr => ∃ j cv, j ≤ lb.length ∧ x = .int .i64 ((j : Int) - 1) ∧ B5 W wr nodes sent (.slice wa wl wc) cv L 6 f t i a m (.slice oa ol oc) ∧ wr.ownsRow 0 39 5 cv (part lb f j).length (flatX (part lb f j)) ∧ (∀ k, cv.ownBlock = some k → Y k ∨ W.heap.size + 1 + 1 + 1 + 1 < k)) (fun x _ => (intOf x + 1).toNat)
    case atStart => exact ⟨lb.length, .slice ba lb.length bc, Nat.le_refl _, rfl, HX3.out, by rw [part_all]; exact ownsRow_g0 Hh.out.row HX3.out.xg, fun k e => .inl (Hh.out.own k e)⟩
    case round =>
      obtain ⟨j, cv, hj, rfl, hX, hr, ho⟩ := hrel
      obtain ⟨ca, cc, rfl, hc3, hc4⟩ := ownsRow_sv hr
      have hpl : ((part lb f j).length : Int) ≤ 30000 := by have := part_len lb f j; omega
      have HX := Lib.hid hX
      have Hr := Lib.hid hr
      have Ho := Lib.hid ho
      obtain ⟨a0, a1, a2, a3, a4, fa0, fa1, fa2, fa3, fa4⟩ := five hX.xa
      obtain ⟨b0, b1, b2, b3, b4, b5, b6⟩ := seven hX.xb
      clear hr ho
      rcases Nat.eq_zero_or_pos j with hj0 | hj0
      · subst hj0
        rw [show (((0 : Nat) : Int)) - 1 = -1 by rfl]
        obtain ⟨c0, c1, c2, c3, c4, c5, c6, c7, c8, c9⟩ := five hX.xc
        obtain ⟨d0, d1, d2, d3, d4, d5, d6, d7, d8, d9⟩ := five hX.xd
        obtain ⟨e0, e1, e2, e3, e4, _⟩ := five hX.xe
        clear hX
        go_wp2_with fail
        go_region
        all_goals
          go_wp2
          refine bodyPost_ret (v := .tuple #[rv nodes sent (.slice wa wl wc) (.slice ca (part lb f 0).length cc) L, zdv, .bool false, .int .i64 0]) (by simp [results, Try.results13, go_sem, c0, c1, c2, c3, c4, d0, d1, d2, d3, d4]) rfl ?_
          refine ⟨_, _, _, _, rfl, ⟨rfl, rfl, rfl, _, by rw [HL.out], ?_⟩, (fin10 HX.out.xg _ _ _ _ _ _ _ _ _ _).trans (Gr.drew _ _)⟩
          have gw := (fin10 HX.out.xg (.int .i64 nodes) (.int .u64 (sent : Int)) (.slice wa wl wc) (.slice ca (part lb f 0).length cc) (.int .i64 (L : Int)) (.int .i64 0) (.int .i64 0) (.int .u64 0) nl (.bool false)).trans (Gr.drew _ (fun _ => False))
          rw [← part_zero]
          refine ⟨ownsRow_of_block Hr.out (fun k e => ?_), fun k e => ?_, fun x hx => ?_⟩
          · rcases Ho.out k e with h1 | h1
            · have := HY.out k h1
              exact keep10 (by omega) (by omega) _ _ _ _ _ _ _ _ _ _
            · exact keep10 (by omega) (by omega) _ _ _ _ _ _ _ _ _ _
          · exact (Ho.out k e).imp id (fun e => by omega)
          · have h1 := (Hh.out.byt x (part_mem hx)).keep (W' := _) (fun k hk => gw.block k (HY.out k hk) (fun e => e))
            exact ⟨h1.1, fun b off e => (h1.2.1 b off e).imp id .inl, h1.2.2⟩
      · obtain ⟨j', rfl⟩ : ∃ j', j = j' + 1 := ⟨j - 1, by omega⟩
        rw [show (((j' + 1 : Nat) : Int)) - 1 = (j' : Int) by omega]
        obtain ⟨d, hd⟩ : ∃ d, lb[j']? = some d := ⟨_, List.getElem?_eq_getElem (by omega)⟩
        have hpg := part_get (f := f) hd
        have hps := part_step (f := f) hd
        have hlt' : j' < (part lb f (j' + 1)).length := (List.getElem?_eq_some_iff.1 hpg).1
        obtain ⟨g, cap, e, _, _, y0, y1, y2, y3, y4⟩ := rowx_at Hr.out hpg
        cases e
        obtain ⟨n, hn⟩ : ∃ n, (part lb f (j' + 1)).length = n := ⟨_, rfl⟩
        have hI : (j' : Int) < (n : Int) := by omega
        have Hps := Lib.hid hps
        have Hlt := Lib.hid hlt'
        have hs0 : W.heap.size + 1 + 1 + 1 + 1 < wr.heap.size := lt_of_blk hX.xe
        have Hn := Lib.hid hn
        rw [hn] at a3 hpl
        clear hX hps hlt' hd hpg hn hj0
        by_cases hq : d.t = f
        · have hqb : (d.t == f) = true := by simpa using hq
          have hps2 : Hid (part lb f j' = (part lb f (j' + 1)).eraseIdx j') := Lib.hid (by rw [Hps.out, if_pos hq])
          clear hq
          go_wp2_with fail
          go_region
          all_goals
            go_wp2_with fail
            have tw := without_r wr.drew (.slice (some ⟨g, 0, none⟩) (part lb f (j' + 1)).length cc) (part lb f (j' + 1)) j' Hlt.out (ownsRow_g0 Hr.out (Gr.drew _ _)) (by rw [Hn.out]; omega) (by rw [Hn.out]; omega)
            rw [Hn.out] at tw
            refine tw.mono ?_
            clear tw
            rintro e w4 ⟨v', rfl, hr4, ho4, hg4⟩
            obtain ⟨a5, cap5, rfl, _, _⟩ := ownsRow_sv hr4
            have X4 := Lib.hid (HX.out.g0 ((Gr.drew _ _).trans hg4))
            have R4 := Lib.hid hr4
            have O4 : Hid (∀ k, (Value.slice a5 ((part lb f (j' + 1)).eraseIdx j').length cap5).ownBlock = some k → wr.heap.size ≤ k) := Lib.hid ho4
            obtain ⟨a04, a14, a24, a34, a44, fa04, fa14, fa24, fa34, fa44⟩ := five X4.out.xa
            clear hr4 ho4 hg4
            go_wp2_with fail
            refine ⟨⟨j', .slice a5 ((part lb f (j' + 1)).eraseIdx j').length cap5, by omega, rfl, b5_set3 X4.out _, ?_, fun k e => .inr (by have := O4.out k e; omega)⟩, by simp [intOf]⟩
            rw [hps2.out]
            exact ownsRow_of_block R4.out (fun k e => keep1 (by have := O4.out k e; omega) _)
        · have hqb : (d.t == f) = false := by simpa using hq
          have hps2 : Hid (part lb f j' = part lb f (j' + 1)) := Lib.hid (by rw [Hps.out, if_neg hq])
          clear hq
          go_wp2_with fail
          go_region
          all_goals
            go_wp2_with fail
            exact ⟨⟨j', _, by omega, rfl, HX.out.g0 (by first | exact Gr.drew _ _ | exact Gr.refl _ _), by rw [hps2.out, Hn.out]; have := ownsRow_g0 Hr.out (Gr.drew wr (fun _ => False)); rw [Hn.out] at this; exact this, Ho.out⟩, by simp [intOf]⟩
end Go.Proofs.Ytjffhnpoipolfaa
