/-
  The reference's Sort.
-/
import Derived.Test.YtanhigaingjalaaP
import Derived.Deep.RegionLaw
set_option linter.unusedSimpArgs false
set_option linter.unusedVariables false
namespace Go.Proofs.Ytanhigaingjalaa
open Go.RowKit Go.Maps
variable {S S' : Nat → Prop} {W W1 W' : World}

def lenV : Value → Nat
  | .slice _ n _ => n
  | _ => 0
/-- What the reference's Sort holds at its loop: what is left, what is out. -/
structure Sel (W : World) (base : Int) (l : List Int) (u o : Value) (left out : List Int) (wr : World) : Prop where
  hleft : Ow W.heap.size wr u left
  hout : Ow W.heap.size wr o out
  two : ∀ k, u.ownBlock = some k → o.ownBlock ≠ some k
  perm : (out ++ left).Perm l
  so : So base out
  le : ∀ x ∈ out, ∀ y ∈ left, ah base x ≤ ah base y
  gr : G0 W wr

theorem Ow.caps {base g n cap : Nat} {l : List Int} (h : Ow base W (.slice (some ⟨g, 0, none⟩) n cap) l) : n ≤ cap ∧ cap ≤ 9223372036854775807 := by
  rcases h.row.2 with ⟨e, _⟩ | ⟨g', cap', cur, e, hb, hg, hc, hm, _⟩
  · cases e
  · cases e; exact ⟨hc, by unfold maxLen at hm; omega⟩
theorem Ow.take {base g cap : Nat} {l : List Int} (h : Ow base W (.slice (some ⟨g, 0, none⟩) l.length cap) l) {k : Nat} (hk : k ≤ l.length) : Sl W (.slice (some ⟨g, 0, none⟩) k cap) (l.take k) := by
  have hl : (l.take k).length = k := by simp; omega
  have hc := h.caps
  have := h.len
  refine ⟨fun x hx => h.rng x (List.mem_of_mem_take hx), by rw [hl]; omega, .inr ⟨⟨g, 0, none⟩, cap, by rw [hl], by rw [hl]; omega, hc.2, fun i hi => ?_⟩⟩
  rw [hl] at hi
  rw [Addr.add_lit, Nat.zero_add, (h.cell rfl (show i < l.length by omega)).1]
  simp [List.getD_eq_getElem?_getD, List.getElem?_take_of_lt hi]
theorem Ow.drop {base g cap : Nat} {l : List Int} (h : Ow base W (.slice (some ⟨g, 0, none⟩) l.length cap) l) {k : Nat} (hk : k ≤ l.length) : Sl W (.slice (if cap = k then some ⟨g, 0, none⟩ else some ⟨g, k, none⟩) (l.length - k) (cap - k)) (l.drop k) := by
  have hl : (l.drop k).length = l.length - k := by simp
  have hc := h.caps
  have := h.len
  split
  · refine ⟨fun x hx => h.rng x (List.mem_of_mem_drop hx), by rw [hl]; omega, .inr ⟨⟨g, 0, none⟩, cap - k, by rw [hl], by rw [hl]; omega, by omega, fun i hi => ?_⟩⟩
    rw [hl] at hi
    omega
  · refine ⟨fun x hx => h.rng x (List.mem_of_mem_drop hx), by rw [hl]; omega, .inr ⟨⟨g, k, none⟩, cap - k, by rw [hl], by rw [hl]; omega, by omega, fun i hi => ?_⟩⟩
    rw [hl] at hi
    rw [Addr.add_lit, (h.cell rfl (show k + i < l.length by omega)).1]
    simp [List.getD_eq_getElem?_getD, List.getElem?_drop]

theorem rahead_q (base : Int) (hb : Rg base) (x : Int) (hx : Rg x) (w : World) : Calls Try.prog 9 #[.int .u32 base, .int .u32 x] w fun e w' => e = .returned (.int .u64 (ah base x)) ∧ w' = w :=
  (rahead_c base x hb.1 hb.2 hx.1 hx.2 w).mono fun _ _ h => ⟨h.1, h.2.symm⟩

set_option maxRecDepth 20000 in
set_option maxHeartbeats 1000000 in
theorem rsort_c (W : World) (base : Int) (hbase : Rg base) (v : Value) (l : List Int) (h : Sl W v l) :
    Calls Try.prog 16 #[.int .u32 base, v] W fun e w' => ∃ v' l', e = .returned v' ∧ Ow W.heap.size w' v' l' ∧ l'.Perm l ∧ So base l' ∧ G0 W w' := by
  have ho := Ow.lit W.heap.size W [] (by simp) (by simp) (Nat.le_refl _) #[] rfl 0 rfl
  have h9 := rahead_q base hbase
  have hl := h.len
  have h0 := h
  obtain ⟨a, cap, rfl, h1, h2, -⟩ := h.sv
  clear h
  go_enter Try.func16, Try.ntmps16
  go_wp2_with (at_builtin; refine wpList_app _ rfl _ _ rfl W.heap.size _ _ [] l rfl rfl ho (h0.g0 (Gr.alloc _ _ _)) (by simpa using h0.len) (by simp) ?_; intro v1 w1 o1 g1 n1 b1)
  have gg : G0 W w1 := (Gr.alloc W _ _).new (ho.grown g1) (Nat.le_refl _)
  clear n1 b1 g1
  go_loopw [5, 6] (fun u o wr => ∃ left out, Sel W base l u o left out wr) (fun u _ _ => lenV u)
  case atStart => exact ⟨l, [], by simpa using o1, Ow.nil _ _, fun _ _ e => by simp [Value.ownBlock] at e, by simp, by simp, by simp, gg⟩
  case round =>
    obtain ⟨left, out, I⟩ := hrel
    by_cases hn : left = []
    · subst hn
      obtain ⟨ul, ucap, rfl⟩ := I.hleft.sv
      go_wp2_with fail
      go_ret
      exact ⟨_, out, rfl, I.hout, by simpa using I.perm, I.so, I.gr⟩
    · obtain ⟨g, ucap, rfl, hgb⟩ := I.hleft.form hn
      have hp : (0 : Int) < (left.length : Int) := by have := List.length_pos_iff.2 hn; omega
      have hll := I.hleft.len
      have hcl := fun (wr' : World) (q : G0 wr wr') (j : Nat) (hj : j < left.length) => ((I.hleft.g0 q).cell rfl hj).1
      have hrg := fun j => getD_rg I.hleft.rng j
      replace hcl := Lib.hid hcl
      replace hrg := Lib.hid hrg
      go_wp2_with fail
      go_loopw [7, 8] (fun kv iv wr' => ∃ k i : Nat, kv = .int .i64 (k : Int) ∧ iv = .int .i64 (i : Int) ∧ k < left.length ∧ 1 ≤ i ∧ i ≤ left.length ∧ Hid (∀ j, j < i → ah base (left.getD k 0) ≤ ah base (left.getD j 0)) ∧ G0 wr wr') (fun _ iv _ => left.length - (intOf iv).toNat)
      case atStart => exact ⟨0, 1, rfl, rfl, by omega, by omega, by omega, Lib.hid (fun j hj => by obtain rfl : j = 0 := by omega
                                                                                                   exact Int.le_refl _), Gr.refl _ _⟩
      case round =>
        obtain ⟨k, i, rfl, rfl, hk, hi1, hi2, hmin, hg⟩ := hrel
        by_cases hlt : i < left.length
        · have ci := hcl.out _ hg i hlt
          have ck := hcl.out _ hg k hk
          have ri : Rg (left.getD i 0) := hrg.out i
          have rk : Rg (left.getD k 0) := hrg.out k
          have hiI : (i : Int) < (left.length : Int) := by omega
          have hm2 := hmin.out
          generalize hx : left.getD i 0 = x at ci ri
          generalize hy : left.getD k 0 = y at ck rk hm2
          replace hx := Lib.hid hx
          replace hy := Lib.hid hy
          clear hmin
          replace hm2 := Lib.hid hm2
          rcases hd : decide (ah base x < ah base y) with _ | _
          · go_wp2_with fail
            go_quiet (first | (go_at_call 9; exact Calls.quiet_of_same (h9 _ (by assumption) _)))
            go_wp2_with fail
            refine ⟨⟨k, i + 1, rfl, by go_num, hk, by omega, by omega, Lib.hid (fun j hj => ?_), hg.trans (Gr.drewN _ _ _)⟩, by simp [intOf]; omega⟩
            by_cases e : j = i
            · rw [e, hx.out, hy.out]
              have := of_decide_eq_false hd
              omega
            · rw [hy.out]; exact hm2.out j (by omega)
          · go_wp2_with fail
            go_quiet (first | (go_at_call 9; exact Calls.quiet_of_same (h9 _ (by assumption) _)))
            go_wp2_with fail
            refine ⟨⟨i, i + 1, rfl, by go_num, hlt, by omega, by omega, Lib.hid (fun j hj => ?_), hg.trans (Gr.drewN _ _ _)⟩, by simp [intOf]; omega⟩
            have hd' := of_decide_eq_true hd
            by_cases e : j = i
            · rw [e]; exact Int.le_refl _
            · rw [hx.out]; exact Int.le_trans (Int.le_of_lt hd') (hm2.out j (by omega))
        · obtain rfl : i = left.length := by omega
          have ck := hcl.out _ hg k hk
          have rk : Rg (left.getD k 0) := hrg.out k
          have hkI : (k : Int) < (left.length : Int) := by omega
          have Il := I.hleft.g0 hg
          have Io := I.hout.g0 hg
          have hol : out.length + left.length = l.length := by have := I.perm.length_eq; simpa using this
          have hgo := I.gr.trans hg
          have hsz := hgo.size
          have two := I.two
          obtain ⟨k1, hk1⟩ : ∃ k1, k + 1 = k1 := ⟨_, rfl⟩
          have hw1 : IntKind.i64.wrap ((k : Int) + 1) = (k1 : Int) := by have := I.hleft.len; simp [IntKind.wrap, IntKind.min, IntKind.max, IntKind.bits, IntKind.signed]; omega
          have hss := sel_step hk I.perm I.so I.le (fun j hj => hmin.out j hj)
          rw [hk1] at hss
          clear hmin hcl hrg
          obtain ⟨oa, ocap, rfl⟩ := Io.sv
          generalize hy : left.getD k 0 = y at *
          replace hy := Lib.hid hy
          replace hss := Lib.hid hss
          replace I := Lib.hid I
          replace two := Lib.hid two
          replace Il := Lib.hid Il
          have lit1 := Ow.lit W.heap.size wr [y] (by simpa using rk) (by simp) hsz #[.int .u32 y] rfl 1 rfl
          go_wp2_with (at_builtin; refine wpList_app _ rfl _ _ rfl W.heap.size _ _ out [y] rfl rfl (Io.g0 (Gr.alloc _ _ _)) lit1.sl (by simp; omega) (by simp; omega) ?_; intro v2 w2 o2 g2 n2 b2)
          have g2' : (wr.alloc (.cells #[.int .u32 y] 22)).grownBy w2 (Value.slice oa out.length ocap).ownBlock := g2
          have b2' : v2.ownBlock = (Value.slice oa out.length ocap).ownBlock ∨ v2.ownBlock = some (wr.alloc (.cells #[.int .u32 y] 22)).heap.size := b2
          clear g2 n2 b2
          have Gall : Gr (fun k => W.heap.size ≤ k) wr w2 := (Gr.alloc _ _ _).trans ((Io.g0 (Gr.alloc _ _ _)).grown g2')
          have hgw : g < wr.heap.size := (Il.out.lt g rfl).2
          have hsz1 : (wr.alloc (.cells #[.int .u32 y] 22)).heap.size = wr.heap.size + 1 := by simp
          have Il2 : Ow W.heap.size w2 (.slice (some ⟨g, 0, none⟩) left.length ucap) left := by
            refine Il.out.of_block (fun k _ hk => ?_)
            obtain rfl : g = k := by simpa [Value.ownBlock] using hk
            exact (g2'.block g (by omega) (fun e => two.out g rfl e.symm)).trans (heap_alloc_old wr _ hgw)
          have two2 : v2.ownBlock ≠ some g := by
            rcases b2' with e | e
            · rw [e]; exact two.out g rfl
            · rw [e, hsz1]; intro e2; cases e2; omega
          have hsz2 := Gall.size
          have gW2 : G0 W w2 := hgo.new Gall (Nat.le_refl _)
          clear g2' b2' Gall hsz1 two Il lit1 hgw
          have tw : (left.take k).length = k := by simp; omega
          have dw : (left.drop k1).length = left.length - k1 := by simp
          have sA : ∀ w', G0 w2 w' → Sl w' (.slice (some ⟨g, 0, none⟩) k ucap) (left.take k) := fun w' q => (Il2.g0 q).take (by omega)
          have sB : ∀ w', G0 w2 w' → Sl w' (.slice (if ucap = k1 then some ⟨g, 0, none⟩ else some ⟨g, k1, none⟩) (left.length - k1) (ucap - k1)) (left.drop k1) := fun w' q => (Il2.g0 q).drop (by omega)
          have hl2 : (out ++ [y]).length = out.length + 1 := by simp
          replace sA := Lib.hid sA
          replace sB := Lib.hid sB
          obtain ⟨c1, c2⟩ : left.length ≤ ucap ∧ ucap ≤ 9223372036854775807 := Il2.caps
          have c3 : k ≤ ucap := by omega
          have c4 : k1 ≤ left.length := by omega
          have hI : (left.length : Int) ≤ 35184372088832 := by omega
          have nw := (Ow.lit w2.heap.size w2 [] (by simp) (by simp) (Nat.le_refl _) #[] rfl 0 rfl).g0 (Gr.drew _ _)
          have gnw : G0 w2 (w2.alloc (.cells #[] 22)).drew := (Gr.alloc _ _ _).trans (Gr.drew _ _)
          have snw : w2.heap.size ≤ (w2.alloc (.cells #[] 22)).drew.heap.size := gnw.size
          replace nw := Lib.hid nw
          replace gnw := Lib.hid gnw
          go_wp2_with fail
          go_region_law (first
            | (refine step_app rfl _ _ rfl w2.heap.size _ _ [] (left.take k) rfl rfl nw.out (sA.out _ gnw.out) (by simp; omega) snw ?_; intro v3 w3 o3 g3; have q3 := (gnw.out.new (nw.out.grown g3) (Nat.le_refl _)))
            | (refine step_app rfl _ _ rfl w2.heap.size v3 _ ([] ++ left.take k) (left.drop k1) rfl rfl o3 (sB.out _ q3) (by simp; omega) q3.size ?_; intro v4 w4 o4 g4; have q4 := (q3.new (o3.grown g4) (Nat.le_refl _)))
            | fail)
          all_goals
            have I4 : Sel W base l v4 v2 (left.take k ++ left.drop k1) (out ++ [y]) w4 :=
              ⟨(by simpa using o4.mono gW2.size), o2.g0 q4, fun kk e1 e2 => by have := (o4.lt kk e1).1; have := (o2.lt kk e2).2; omega, hss.out.1, hss.out.2.1, hss.out.2.2, gW2.trans q4⟩
            have lv : lenV v4 < left.length := by obtain ⟨x4, c4', rfl⟩ := o4.sv; simp [lenV]; omega
            go_wp2_with fail
            all_goals exact ⟨⟨_, _, I4⟩, lv⟩
end Go.Proofs.Ytanhigaingjalaa
