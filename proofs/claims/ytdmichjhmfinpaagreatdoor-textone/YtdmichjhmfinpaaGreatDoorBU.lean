/-
  The texts of terms of all kinds.
-/
import Derived.Test.YtdmichjhmfinpaaGreatDoorBI
import Derived.Test.YtdmichjhmfinpaaGreatDoorBR
set_option linter.unusedVariables false
set_option linter.unusedSimpArgs false
namespace Go.Proofs.YtdmichjhmfinpaaGreatDoor
open Go.RowKit Go.Maps
variable {S S' : Nat → Prop} {W W1 W' : World}

/-- put lays the text txt behind what is there, where the library's table lies. -/
def PutK (T : Tm) (txt : List Int) : Prop := ∀ (A : Nat → Prop) (W : World) (base : Nat) (b v : Value) (l : List Int), Rep A W T v → (∀ k, A k → k < base) → Ob base W b l → l.length + txt.length + 20000 ≤ 700000 → base ≤ W.heap.size → 2 < base → Tb W →
  Calls Tryz.prog 21 #[b, v] W fun e w' => ∃ b', e = .returned b' ∧ Ob base w' b' (l ++ txt) ∧ Loc b W b' w'
theorem PutOk.k {T : Tm} {x : List Int} {n : Nat} (h : PutOk T x n) (hn : n ≤ x.length + 20000) : PutK T x := fun A W base b v l h1 h2 h3 h4 h5 _ _ => h A W base b v l h1 h2 h3 (by omega) h5
theorem etx_take_len (txs : List (List Int)) (j : Nat) : (etx (txs.take j)).length ≤ (etx txs).length := by
  cases txs with
  | nil => simp
  | cons x r =>
    cases j with
    | zero => simp [etx]
    | succ j =>
      rw [List.take_succ_cons, etx, etx, List.length_append, List.length_append]
      have e : r.flatMap (fun y => 44 :: y) = (r.take j).flatMap (fun y => 44 :: y) ++ (r.drop j).flatMap (fun y => 44 :: y) := by
        rw [← List.flatMap_append, List.take_append_drop]
      rw [e, List.length_append]
      omega

set_option maxRecDepth 20000 in
set_option maxHeartbeats 1000000 in
theorem putElements_k (A : Nat → Prop) (W : World) (base : Nat) (b : Value) (l : List Int) (ra : Option Addr) (rc : Nat) (ts : List Tm) (txs : List (List Int))
    (h : Ob base W b l) (hel : ts ≠ [] → ∃ g, ra = some ⟨g, 0, none⟩ ∧ ts.length ≤ rc ∧ ∀ (k : Nat) x, ts[k]? = some x → At A W x g (k * 9)) (hA : ∀ k, A k → k < base)
    (hlt : txs.length = ts.length) (hok : ∀ (k : Nat) T x, ts[k]? = some T → txs[k]? = some x → PutK T x) (hlen : l.length + (etx txs).length + 20000 ≤ 700000) (hB : 2 < base) (hT : Tb W) (hb : base ≤ W.heap.size) (hts : ts.length ≤ 256) :
    Calls Tryz.prog 38 #[b, .slice ra ts.length rc] W fun e w' => ∃ b', e = .returned b' ∧ Ob base w' b' (l ++ etx txs) ∧ Loc b W b' w' := by
  obtain ⟨ba, bc, rfl⟩ := h.sv
  have hmI : (ts.length : Int) ≤ 256 := by omega
  go_enter Tryz.func38, Tryz.ntmps38
  go_wp2
  go_loopw [0, 9] (fun b i wr => ∃ j : Nat, j ≤ ts.length ∧ i = .int .i64 (j : Int) ∧ Ob base wr b (l ++ etx (txs.take j)) ∧ Loc (.slice ba l.length bc) W b wr) (fun _ i _ => ts.length - (intOf i).toNat)
  case atStart => exact ⟨0, Nat.zero_le _, rfl, by simpa [etx] using h, Loc.refl _ _⟩
  case round =>
    obtain ⟨j, hj, rfl, ho, hgl⟩ := hrel
    have hg := hgl.far h
    by_cases hjl : j < ts.length
    · obtain ⟨g, rfl, hrc, hat⟩ := hel (List.ne_nil_of_length_pos (by omega))
      obtain ⟨T, hTT⟩ : ∃ T, ts[j]? = some T := ⟨_, List.getElem?_eq_getElem hjl⟩
      obtain ⟨x, hx⟩ : ∃ x, txs[j]? = some x := ⟨_, List.getElem?_eq_getElem (by omega)⟩
      have hput := hok j T x hTT hx
      have hstep := etx_take txs j x hx
      have hlo : (l ++ etx (txs.take j)).length + x.length + (if j = 0 then 0 else 1) + 20000 ≤ 700000 := by
        have h2 := etx_take_len txs (j + 1)
        rw [hstep] at h2
        rw [List.length_append]
        by_cases h0 : j = 0
        · rw [if_pos h0] at h2 ⊢; rw [List.length_append] at h2; omega
        · rw [if_neg h0] at h2 ⊢; rw [List.length_append, List.length_cons] at h2; omega
      have hTw : Tb wr := hT.gr hg (by omega)
      have hatw : At A wr T g (j * 9) := (hat j T hTT).turn (fun k hk => hg.block k (by have := hA k hk; omega) (by have := hA k hk; omega))
      obtain ⟨-, v, hrep, hns⟩ := hatw
      have hns : Ns wr g (j * 9) v := hns
      obtain ⟨tk, tn, tx, ty, tS, ta, tc, td, b1, m1, d1, b2, m2, d2, rfl⟩ := hrep.agg
      obtain ⟨t0, t1, t2, t3, t4, t5, t6, t7, t8⟩ := hns.facts
      have hbw : base ≤ wr.heap.size := by have := hg.size; omega
      have hjI : (j : Int) < (ts.length : Int) := by omega
      have hA2 : ∀ k, A k → k < wr.heap.size := fun k hk => by have := hA k hk; omega
      obtain ⟨L, hL⟩ : ∃ L, l ++ etx (txs.take j) = L := ⟨_, rfl⟩
      have hend : Hid (l ++ etx (txs.take (j + 1)) = L ++ (if j = 0 then x else 44 :: x)) := Lib.hid (by rw [hstep, ← List.append_assoc, hL])
      rw [hL] at ho hlo
      have hrepg := fun w' (k : Gr (fun k => base ≤ k) wr w') => hrep.turn (A' := A) (W' := w') (fun i hi _ => ⟨hi, k.block i (hA2 i hi) (fun e => by have := hA i hi; omega)⟩)
      clear hL hstep hTT hx hok hel hat hrep hlen hlt
      obtain ⟨xa, xc, rfl⟩ := ho.sv
      by_cases h0 : j = 0
      · subst h0
        simp only [if_true] at hend
        simp only [if_true] at hlo
        have hP := fun o => hput A (wr.alloc o) base _ _ L (hrepg _ (Gr.alloc _ _ _)) hA (ho.g0 (Gr.alloc _ _ _)) (by omega) (by simp; omega) hB (hTw.g0 (Gr.alloc _ _ _))
        replace hP := Lib.hid hP
        clear hput hrepg
        go_wp2_with (first
          | (go_at_call 21; with_reducible refine (Hid.out hP _).mono ?_; rintro e w1 ⟨b1', rfl, o1, g1⟩))
        exact ⟨⟨1, by omega, by go_num, by rw [hend.out]; exact o1, hgl.trans (Loc.pre (Gr.alloc _ _ _) g1)⟩, by simp [intOf]; omega⟩
      · have hj0 : (0 : Int) < (j : Int) := by omega
        rw [if_neg h0] at hend hlo
        have hq1 : Hid ((L ++ [44]).length = L.length + 1) := Lib.hid (by simp)
        have hBx : Bx ((wr.alloc (.cells #[.int .i64 tk, .int .i64 tn, .complex .f64 tx ty, .string tS, .int .i64 ta, .int .u32 tc, .int .u64 td, .slice b1 m1 d1, .slice b2 m2 d2] 31)).alloc (.cells #[.int .u8 44] 5)) wr.heap.size tk tn tx ty tS ta tc td (.slice b1 m1 d1) (.slice b2 m2 d2) :=
          (Gr.alloc _ _ (fun _ => False)).keep (heap_alloc_new wr _) (fun e => e)
        have hlit : Lit ((wr.alloc (.cells #[.int .i64 tk, .int .i64 tn, .complex .f64 tx ty, .string tS, .int .i64 ta, .int .u32 tc, .int .u64 td, .slice b1 m1 d1, .slice b2 m2 d2] 31)).alloc (.cells #[.int .u8 44] 5)) (wr.heap.size + 1) 44 := by
          have := Lit.new (wr.alloc (.cells #[.int .i64 tk, .int .i64 tn, .complex .f64 tx ty, .string tS, .int .i64 ta, .int .u32 tc, .int .u64 td, .slice b1 m1 d1, .slice b2 m2 d2] 31)) 44
          rw [World.size_alloc] at this; exact this
        replace hBx := Lib.hid hBx
        replace hrepg := Lib.hid hrepg
        go_wp2_with (first
          | (at_builtin; refine wpList_ap rfl _ _ rfl base _ _ L [44] rfl rfl ((ho.g0 (Gr.alloc _ _ _)).g0 (Gr.alloc _ _ _)) hlit.sb (by simp; omega) (by simp; omega) ?_; intro v1 w1 o1 g1
             have L1 := Loc.pre ((Gr.alloc wr _ _).trans (Gr.alloc _ _ _)) g1
             have hB1 : Bx w1 wr.heap.size tk tn tx ty tS ta tc td (.slice b1 m1 d1) (.slice b2 m2 d2) := g1.gr.keep hBx.out (ho.own _ (Nat.le_refl _))
             have hf1 := hB1.facts
             have hs1 : wr.heap.size < w1.heap.size := hB1.lt
             obtain ⟨ya, yc, rfl⟩ := o1.sv
             rw [hq1.out] at o1 L1 ⊢
             have H := Lib.hid (hput A w1 base _ _ (L ++ [44]) (hrepg.out w1 (L1.far ho)) hA o1 (by rw [hq1.out]; omega) (by omega) hB (hTw.gr (L1.far ho) (by omega))))
          | (go_at_call 21; with_reducible refine (Hid.out H).mono ?_; rintro e w2 ⟨b2', rfl, o2, g2⟩))
        exact ⟨⟨j + 1, by omega, by go_num, by rw [hend.out]; rw [List.append_assoc] at o2; exact o2, hgl.trans (L1.trans g2)⟩, by simp [intOf]; omega⟩
    · obtain rfl : j = ts.length := by omega
      rw [List.take_of_length_le (by omega)] at ho
      go_wp2
      go_ret
      exact ⟨_, rfl, ho, hgl⟩

set_option maxRecDepth 20000 in
set_option maxHeartbeats 1000000 in
theorem put_tuple_k (ts : List Tm) (txs : List (List Int)) (hlt : txs.length = ts.length) (hok : ∀ (k : Nat) T x, ts[k]? = some T → txs[k]? = some x → PutK T x) (hts : ts.length ≤ 256) :
    PutK (.mk { k := 6 } [] ts) ([123] ++ etx txs ++ [125]) := by
  intro A W base b v l hrep hA h hl0 hb hB hT
  have hl : l.length + 1 + (etx txs).length + 1 + 20000 ≤ 700000 := by simp at hl0; omega
  clear hl0
  have hrow : ∃ a1 c1 a2 c2, v = Go.Proofs.YtdmichjhmfinpaaGreatDoor.ts 6 0 0 0 e0 0 0 0 a1 0 c1 a2 ts.length c2 ∧ (ts ≠ [] → ∃ g, a2 = some ⟨g, 0, none⟩ ∧ ts.length ≤ c2 ∧ ∀ (k : Nat) x, ts[k]? = some x → At A W x g (k * 9)) := by
    obtain ⟨bv, lv, vs, rfl, k1, k2, k3⟩ := hrep
    obtain ⟨a1, c1, rfl⟩ : ∃ a c, bv = .slice a 0 c := by
      rcases k1 with ⟨_, a, c, rfl⟩ | ⟨g, cap, cur, rfl, _⟩
      · exact ⟨a, c, rfl⟩
      · exact ⟨_, cap, rfl⟩
    rcases k2 with ⟨e0', a2, c2, rfl⟩ | ⟨g, cap, cur, rfl, hg, hcur, hcap, htake⟩
    · exact ⟨a1, c1, a2, c2, by rw [e0'], fun e => absurd (List.length_eq_zero_iff.1 e0') e⟩
    · refine ⟨a1, c1, _, cap, rfl, fun _ => ⟨g, rfl, hcap, fun k x hx => ?_⟩⟩
      obtain ⟨w, r1, r2⟩ := reps_at ts vs k3 k x hx
      refine ⟨hg, w, r1, fun j u hu => ?_⟩
      have e := r2 j u hu
      rw [← htake] at e
      have hlt : k * 9 + j < ts.length * 9 := by
        rcases Nat.lt_or_ge (k * 9 + j) (ts.length * 9) with h | h
        · exact h
        · rw [List.getElem?_eq_none (by simp; omega)] at e; cases e
      rw [List.getElem?_take_of_lt hlt] at e
      simp only [World.cell?, hcur]
      simpa using e
  obtain ⟨a1, c1, a2, c2, rfl, hel⟩ := hrow
  obtain ⟨ba, bc, rfl⟩ := h.sv
  have hcall := fun w b' l' (g : Gr (fun k => base ≤ k) W w) (ho : Ob base w b' l') (hln : l'.length ≤ l.length + 1) => putElements_k A w base b' l' a2 c2 ts txs ho
    (fun hne => by obtain ⟨gg, h1, h2, h3⟩ := hel hne; exact ⟨gg, h1, h2, fun k x hx => (h3 k x hx).turn (fun i hi => g.block i (by have := hA i hi; omega) (by have := hA i hi; omega))⟩) hA hlt hok (by omega) hB (hT.gr g (by omega)) (by have := g.size; omega) hts
  have hPl2 : (etx txs).length ≤ 690000 := by omega
  clear hel hok hlt hts hrep
  generalize ts.length = m at *
  generalize etx txs = P at *
  have hfar := fun {w b'} (k : Loc (.slice ba l.length bc) W b' w) => k.far h
  replace hcall := Lib.hid hcall
  go_enter Tryz.func21, Tryz.ntmps21
  go_wp2_with fail
  generalize hW0 : W.alloc _ = W0
  have g0 : Gr (fun _ => False) W W0 := hW0 ▸ Gr.alloc _ _ _
  have hBx : Bx W0 W.heap.size 6 0 0 0 e0 0 0 0 (.slice a1 0 c1) (.slice a2 m c2) := hW0 ▸ heap_alloc_new W _
  have hs0 : W.heap.size < W0.heap.size := by rw [← hW0]; simp
  clear hW0
  have hf8 := hBx.facts.2.2.2.2.2.2.2.2
  have hsz1 : ∀ o, (W0.alloc o).heap.size = W0.heap.size + 1 := fun o => by simp
  have hA1 : Lit (W0.alloc (.cells #[.int .u8 123] 5)).drew W0.heap.size 123 := (Lit.new W0 123).g0 (Gr.drew _ _)
  have hA2 : Lit ((W0.alloc (.cells #[.int .u8 123] 5)).alloc (.cells #[.int .u8 125] 5)).drew W0.heap.size 123 := ((Lit.new W0 123).g0 (Gr.alloc _ _ _)).g0 (Gr.drew _ _)
  have hD2 : Lit ((W0.alloc (.cells #[.int .u8 123] 5)).alloc (.cells #[.int .u8 125] 5)).drew (W0.heap.size + 1) 125 := by
    have := (Lit.new (W0.alloc (.cells #[.int .u8 123] 5)) 125).g0 (Gr.drew _ _); rw [hsz1] at this; exact this
  have hD3 : Lit ((W0.alloc (.cells #[.int .u8 125] 5)).alloc (.cells #[.int .u8 123] 5)).drew W0.heap.size 125 := ((Lit.new W0 125).g0 (Gr.alloc _ _ _)).g0 (Gr.drew _ _)
  have hA3 : Lit ((W0.alloc (.cells #[.int .u8 125] 5)).alloc (.cells #[.int .u8 123] 5)).drew (W0.heap.size + 1) 123 := by
    have := (Lit.new (W0.alloc (.cells #[.int .u8 125] 5)) 123).g0 (Gr.drew _ _); rw [hsz1] at this; exact this
  have G1 : Gr (fun _ => False) W (W0.alloc (.cells #[.int .u8 123] 5)).drew := (g0.trans (Gr.alloc _ _ _)).trans (Gr.drew _ _)
  have G2 : Gr (fun _ => False) W ((W0.alloc (.cells #[.int .u8 123] 5)).alloc (.cells #[.int .u8 125] 5)).drew := ((g0.trans (Gr.alloc _ _ _)).trans (Gr.alloc _ _ _)).trans (Gr.drew _ _)
  have G3 : Gr (fun _ => False) W ((W0.alloc (.cells #[.int .u8 125] 5)).alloc (.cells #[.int .u8 123] 5)).drew := ((g0.trans (Gr.alloc _ _ _)).trans (Gr.alloc _ _ _)).trans (Gr.drew _ _)
  have hbo : ∀ g, W.heap.size ≤ g → (Value.slice ba l.length bc).ownBlock ≠ some g := h.own
  have hW0 : W.heap.size ≤ W0.heap.size := g0.size
  have hcf : ∀ w w' : World, ∀ b b' : Value, w.cell? ⟨W.heap.size, 8, none⟩ = some (.slice a2 m c2) → Loc b w b' w' → b.ownBlock ≠ some W.heap.size → w'.cell? ⟨W.heap.size, 8, none⟩ = some (.slice a2 m c2) := fun w w' b b' hc k hne =>
    (World.cell?_of_block (w' := w') (w := w) (a := ⟨W.heap.size, 8, none⟩) (k.gr.block _ (World.block_lt_of_cell? w _ hc) hne)).trans hc
  clear hsz1
  have hcg : ∀ w w' : World, w.cell? ⟨W.heap.size, 8, none⟩ = some (.slice a2 m c2) → Gr (fun _ => False) w w' → w'.cell? ⟨W.heap.size, 8, none⟩ = some (.slice a2 m c2) := fun w w' hc k =>
    (World.cell?_of_block (w' := w') (w := w) (a := ⟨W.heap.size, 8, none⟩) (k.block _ (World.block_lt_of_cell? w _ hc) (fun e => e))).trans hc
  replace hcg := Lib.hid hcg
  have hq1 : Hid ((l ++ [123]).length = l.length + 1) := Lib.hid (by simp)
  have hq2 : Hid ((l ++ [123] ++ P).length = l.length + 1 + P.length) := Lib.hid (by simp; omega)
  replace hcf := Lib.hid hcf
  replace hbo := Lib.hid hbo
  go_region_held3 (fun w' => w'.cell? ⟨W.heap.size, 8, none⟩ = some (.slice a2 m c2)) (first | assumption | go_keep)
    (first
      | (refine step_ap rfl _ _ rfl base (.slice ba l.length bc) _ l [123] rfl rfl (h.g0 G1) (hA1).sb (by simp; omega) (by have := G1.size; omega) ?_; intro v1 w1 o1 g1; have L1 := Loc.pre G1 g1; have f1 := hcf.out _ w1 _ v1 (by first | assumption | (go_keep)) g1 (hbo.out _ (Nat.le_refl _)); have n1 : v1.ownBlock ≠ some W.heap.size := Loc.own_ne g1 (by simp; omega) (hbo.out _ (Nat.le_refl _)); obtain ⟨x1, y1, rfl⟩ := o1.sv; rw [hq1.out] at o1 L1 g1 n1 ⊢; have H1 := Lib.hid (hcall.out w1 _ _ (hfar L1) o1 (by simp)); have H2 := Lib.hid (hcall.out (w1.alloc (.cells #[.int .u8 125] 5)) _ _ (hfar (L1.post (Gr.alloc _ _ _))) (o1.g0 (Gr.alloc _ _ _)) (by simp)))
      | (refine step_ap rfl _ _ rfl base (.slice ba l.length bc) _ l [123] rfl rfl (h.g0 G2) (hA2).sb (by simp; omega) (by have := G2.size; omega) ?_; intro v1 w1 o1 g1; have L1 := Loc.pre G2 g1; have f1 := hcf.out _ w1 _ v1 (by first | assumption | (go_keep)) g1 (hbo.out _ (Nat.le_refl _)); have n1 : v1.ownBlock ≠ some W.heap.size := Loc.own_ne g1 (by simp; omega) (hbo.out _ (Nat.le_refl _)); have dl := hD2.loc g1 (hbo.out _ (by omega)); have dn := Loc.own_ne g1 hD2.lt (hbo.out _ (by omega)); obtain ⟨x1, y1, rfl⟩ := o1.sv; rw [hq1.out] at o1 L1 g1 n1 dn ⊢; have H1 := Lib.hid (hcall.out w1 _ _ (hfar L1) o1 (by simp)); have H2 := Lib.hid (hcall.out (w1.alloc (.cells #[.int .u8 125] 5)) _ _ (hfar (L1.post (Gr.alloc _ _ _))) (o1.g0 (Gr.alloc _ _ _)) (by simp)))
      | (refine step_ap rfl _ _ rfl base (.slice ba l.length bc) _ l [123] rfl rfl (h.g0 G3) (hA3).sb (by simp; omega) (by have := G3.size; omega) ?_; intro v1 w1 o1 g1; have L1 := Loc.pre G3 g1; have f1 := hcf.out _ w1 _ v1 (by first | assumption | (go_keep)) g1 (hbo.out _ (Nat.le_refl _)); have n1 : v1.ownBlock ≠ some W.heap.size := Loc.own_ne g1 (by simp; omega) (hbo.out _ (Nat.le_refl _)); have dl := hD3.loc g1 (hbo.out _ (by omega)); have dn := Loc.own_ne g1 hD3.lt (hbo.out _ (by omega)); obtain ⟨x1, y1, rfl⟩ := o1.sv; rw [hq1.out] at o1 L1 g1 n1 dn ⊢; have H1 := Lib.hid (hcall.out w1 _ _ (hfar L1) o1 (by simp)); have H2 := Lib.hid (hcall.out (w1.alloc (.cells #[.int .u8 125] 5)) _ _ (hfar (L1.post (Gr.alloc _ _ _))) (o1.g0 (Gr.alloc _ _ _)) (by simp)))
      | (go_at_call 38; with_reducible refine (Hid.out H1).mono ?_; rintro e w2 ⟨v2, rfl, o2, g2⟩; have L2 := L1.trans g2; have f2 := hcf.out w1 w2 _ v2 f1 g2 n1; have n2 := Loc.own_ne g2 (by have := L1.gr.size; have := World.block_lt_of_cell? w1 _ f1; simpa using this) n1; obtain ⟨x2, y2, rfl⟩ := o2.sv; rw [hq2.out] at o2 L2 g2 n2 ⊢)
      | (go_at_call 38; with_reducible refine (Hid.out H2).mono ?_; rintro e w2 ⟨v2, rfl, o2, g2⟩; have L2 := (L1.post (Gr.alloc _ _ _)).trans g2; have f1a := hcg.out w1 _ f1 (Gr.alloc w1 (.cells #[.int .u8 125] 5) _); have f2 := hcf.out _ w2 _ v2 f1a g2 n1; have n2 := Loc.own_ne g2 (by have := World.block_lt_of_cell? _ _ f1a; simpa using this) n1; have dk := (Lit.new w1 125).loc g2 (o1.own _ (Nat.le_refl _)); obtain ⟨x2, y2, rfl⟩ := o2.sv; rw [hq2.out] at o2 L2 g2 n2 ⊢)
      | (refine step_ap rfl _ _ rfl base (.slice x2 _ y2) _ _ [125] rfl rfl (o2.g0 (Gr.alloc _ _ _)) (Lit.new w2 125).sb (by simp; omega) (by have := L2.gr.size; simp; omega) ?_; intro v3 w3 o3 g3; have L3 := L2.trans (Loc.pre (Gr.alloc _ _ _) g3); have f3 := hcf.out _ w3 _ v3 (hcg.out w2 _ f2 (Gr.alloc _ _ _)) g3 n2)
      | (refine step_ap rfl _ _ rfl base (.slice x2 _ y2) _ _ [125] rfl rfl o2 dk.sb (by simp; omega) (by have := L2.gr.size; simp; omega) ?_; intro v3 w3 o3 g3; have L3 := L2.trans g3; have f3 := hcf.out _ w3 _ v3 f2 g3 n2)
      | (refine step_ap rfl _ _ rfl base (.slice x2 _ y2) _ _ [125] rfl rfl o2 (dl.loc g2 dn).sb (by simp; omega) (by have := L2.gr.size; simp; omega) ?_; intro v3 w3 o3 g3; have L3 := L2.trans g3; have f3 := hcf.out _ w3 _ v3 f2 g3 n2)
      | fail)
  all_goals
    go_wp2_with fail
    go_ret
    refine ⟨v3, rfl, ?_, L3⟩
    simpa [List.append_assoc] using o3
set_option maxRecDepth 20000 in
set_option maxHeartbeats 1000000 in
theorem put_list_k (ts : List Tm) (txs : List (List Int)) (hlt : txs.length = ts.length) (hok : ∀ (k : Nat) T x, ts[k]? = some T → txs[k]? = some x → PutK T x) (hts : ts.length ≤ 256) :
    PutK (.mk { k := 7 } [] ts) ([91] ++ etx txs ++ [93]) := by
  intro A W base b v l hrep hA h hl0 hb hB hT
  have hl : l.length + 1 + (etx txs).length + 1 + 20000 ≤ 700000 := by simp at hl0; omega
  clear hl0
  have hrow : ∃ a1 c1 a2 c2, v = Go.Proofs.YtdmichjhmfinpaaGreatDoor.ts 7 0 0 0 e0 0 0 0 a1 0 c1 a2 ts.length c2 ∧ (ts ≠ [] → ∃ g, a2 = some ⟨g, 0, none⟩ ∧ ts.length ≤ c2 ∧ ∀ (k : Nat) x, ts[k]? = some x → At A W x g (k * 9)) := by
    obtain ⟨bv, lv, vs, rfl, k1, k2, k3⟩ := hrep
    obtain ⟨a1, c1, rfl⟩ : ∃ a c, bv = .slice a 0 c := by
      rcases k1 with ⟨_, a, c, rfl⟩ | ⟨g, cap, cur, rfl, _⟩
      · exact ⟨a, c, rfl⟩
      · exact ⟨_, cap, rfl⟩
    rcases k2 with ⟨e0', a2, c2, rfl⟩ | ⟨g, cap, cur, rfl, hg, hcur, hcap, htake⟩
    · exact ⟨a1, c1, a2, c2, by rw [e0'], fun e => absurd (List.length_eq_zero_iff.1 e0') e⟩
    · refine ⟨a1, c1, _, cap, rfl, fun _ => ⟨g, rfl, hcap, fun k x hx => ?_⟩⟩
      obtain ⟨w, r1, r2⟩ := reps_at ts vs k3 k x hx
      refine ⟨hg, w, r1, fun j u hu => ?_⟩
      have e := r2 j u hu
      rw [← htake] at e
      have hlt : k * 9 + j < ts.length * 9 := by
        rcases Nat.lt_or_ge (k * 9 + j) (ts.length * 9) with h | h
        · exact h
        · rw [List.getElem?_eq_none (by simp; omega)] at e; cases e
      rw [List.getElem?_take_of_lt hlt] at e
      simp only [World.cell?, hcur]
      simpa using e
  obtain ⟨a1, c1, a2, c2, rfl, hel⟩ := hrow
  obtain ⟨ba, bc, rfl⟩ := h.sv
  have hcall := fun w b' l' (g : Gr (fun k => base ≤ k) W w) (ho : Ob base w b' l') (hln : l'.length ≤ l.length + 1) => putElements_k A w base b' l' a2 c2 ts txs ho
    (fun hne => by obtain ⟨gg, h1, h2, h3⟩ := hel hne; exact ⟨gg, h1, h2, fun k x hx => (h3 k x hx).turn (fun i hi => g.block i (by have := hA i hi; omega) (by have := hA i hi; omega))⟩) hA hlt hok (by omega) hB (hT.gr g (by omega)) (by have := g.size; omega) hts
  have hPl2 : (etx txs).length ≤ 690000 := by omega
  clear hel hok hlt hts hrep
  generalize ts.length = m at *
  generalize etx txs = P at *
  have hfar := fun {w b'} (k : Loc (.slice ba l.length bc) W b' w) => k.far h
  replace hcall := Lib.hid hcall
  go_enter Tryz.func21, Tryz.ntmps21
  go_wp2_with fail
  generalize hW0 : W.alloc _ = W0
  have g0 : Gr (fun _ => False) W W0 := hW0 ▸ Gr.alloc _ _ _
  have hBx : Bx W0 W.heap.size 7 0 0 0 e0 0 0 0 (.slice a1 0 c1) (.slice a2 m c2) := hW0 ▸ heap_alloc_new W _
  have hs0 : W.heap.size < W0.heap.size := by rw [← hW0]; simp
  clear hW0
  have hf8 := hBx.facts.2.2.2.2.2.2.2.2
  have hsz1 : ∀ o, (W0.alloc o).heap.size = W0.heap.size + 1 := fun o => by simp
  have hA1 : Lit (W0.alloc (.cells #[.int .u8 91] 5)).drew W0.heap.size 91 := (Lit.new W0 91).g0 (Gr.drew _ _)
  have hA2 : Lit ((W0.alloc (.cells #[.int .u8 91] 5)).alloc (.cells #[.int .u8 93] 5)).drew W0.heap.size 91 := ((Lit.new W0 91).g0 (Gr.alloc _ _ _)).g0 (Gr.drew _ _)
  have hD2 : Lit ((W0.alloc (.cells #[.int .u8 91] 5)).alloc (.cells #[.int .u8 93] 5)).drew (W0.heap.size + 1) 93 := by
    have := (Lit.new (W0.alloc (.cells #[.int .u8 91] 5)) 93).g0 (Gr.drew _ _); rw [hsz1] at this; exact this
  have hD3 : Lit ((W0.alloc (.cells #[.int .u8 93] 5)).alloc (.cells #[.int .u8 91] 5)).drew W0.heap.size 93 := ((Lit.new W0 93).g0 (Gr.alloc _ _ _)).g0 (Gr.drew _ _)
  have hA3 : Lit ((W0.alloc (.cells #[.int .u8 93] 5)).alloc (.cells #[.int .u8 91] 5)).drew (W0.heap.size + 1) 91 := by
    have := (Lit.new (W0.alloc (.cells #[.int .u8 93] 5)) 91).g0 (Gr.drew _ _); rw [hsz1] at this; exact this
  have G1 : Gr (fun _ => False) W (W0.alloc (.cells #[.int .u8 91] 5)).drew := (g0.trans (Gr.alloc _ _ _)).trans (Gr.drew _ _)
  have G2 : Gr (fun _ => False) W ((W0.alloc (.cells #[.int .u8 91] 5)).alloc (.cells #[.int .u8 93] 5)).drew := ((g0.trans (Gr.alloc _ _ _)).trans (Gr.alloc _ _ _)).trans (Gr.drew _ _)
  have G3 : Gr (fun _ => False) W ((W0.alloc (.cells #[.int .u8 93] 5)).alloc (.cells #[.int .u8 91] 5)).drew := ((g0.trans (Gr.alloc _ _ _)).trans (Gr.alloc _ _ _)).trans (Gr.drew _ _)
  have hbo : ∀ g, W.heap.size ≤ g → (Value.slice ba l.length bc).ownBlock ≠ some g := h.own
  have hW0 : W.heap.size ≤ W0.heap.size := g0.size
  have hcf : ∀ w w' : World, ∀ b b' : Value, w.cell? ⟨W.heap.size, 8, none⟩ = some (.slice a2 m c2) → Loc b w b' w' → b.ownBlock ≠ some W.heap.size → w'.cell? ⟨W.heap.size, 8, none⟩ = some (.slice a2 m c2) := fun w w' b b' hc k hne =>
    (World.cell?_of_block (w' := w') (w := w) (a := ⟨W.heap.size, 8, none⟩) (k.gr.block _ (World.block_lt_of_cell? w _ hc) hne)).trans hc
  clear hsz1
  have hcg : ∀ w w' : World, w.cell? ⟨W.heap.size, 8, none⟩ = some (.slice a2 m c2) → Gr (fun _ => False) w w' → w'.cell? ⟨W.heap.size, 8, none⟩ = some (.slice a2 m c2) := fun w w' hc k =>
    (World.cell?_of_block (w' := w') (w := w) (a := ⟨W.heap.size, 8, none⟩) (k.block _ (World.block_lt_of_cell? w _ hc) (fun e => e))).trans hc
  replace hcg := Lib.hid hcg
  have hq1 : Hid ((l ++ [91]).length = l.length + 1) := Lib.hid (by simp)
  have hq2 : Hid ((l ++ [91] ++ P).length = l.length + 1 + P.length) := Lib.hid (by simp; omega)
  replace hcf := Lib.hid hcf
  replace hbo := Lib.hid hbo
  go_region_held3 (fun w' => w'.cell? ⟨W.heap.size, 8, none⟩ = some (.slice a2 m c2)) (first | assumption | go_keep)
    (first
      | (refine step_ap rfl _ _ rfl base (.slice ba l.length bc) _ l [91] rfl rfl (h.g0 G1) (hA1).sb (by simp; omega) (by have := G1.size; omega) ?_; intro v1 w1 o1 g1; have L1 := Loc.pre G1 g1; have f1 := hcf.out _ w1 _ v1 (by first | assumption | (go_keep)) g1 (hbo.out _ (Nat.le_refl _)); have n1 : v1.ownBlock ≠ some W.heap.size := Loc.own_ne g1 (by simp; omega) (hbo.out _ (Nat.le_refl _)); obtain ⟨x1, y1, rfl⟩ := o1.sv; rw [hq1.out] at o1 L1 g1 n1 ⊢; have H1 := Lib.hid (hcall.out w1 _ _ (hfar L1) o1 (by simp)); have H2 := Lib.hid (hcall.out (w1.alloc (.cells #[.int .u8 93] 5)) _ _ (hfar (L1.post (Gr.alloc _ _ _))) (o1.g0 (Gr.alloc _ _ _)) (by simp)))
      | (refine step_ap rfl _ _ rfl base (.slice ba l.length bc) _ l [91] rfl rfl (h.g0 G2) (hA2).sb (by simp; omega) (by have := G2.size; omega) ?_; intro v1 w1 o1 g1; have L1 := Loc.pre G2 g1; have f1 := hcf.out _ w1 _ v1 (by first | assumption | (go_keep)) g1 (hbo.out _ (Nat.le_refl _)); have n1 : v1.ownBlock ≠ some W.heap.size := Loc.own_ne g1 (by simp; omega) (hbo.out _ (Nat.le_refl _)); have dl := hD2.loc g1 (hbo.out _ (by omega)); have dn := Loc.own_ne g1 hD2.lt (hbo.out _ (by omega)); obtain ⟨x1, y1, rfl⟩ := o1.sv; rw [hq1.out] at o1 L1 g1 n1 dn ⊢; have H1 := Lib.hid (hcall.out w1 _ _ (hfar L1) o1 (by simp)); have H2 := Lib.hid (hcall.out (w1.alloc (.cells #[.int .u8 93] 5)) _ _ (hfar (L1.post (Gr.alloc _ _ _))) (o1.g0 (Gr.alloc _ _ _)) (by simp)))
      | (refine step_ap rfl _ _ rfl base (.slice ba l.length bc) _ l [91] rfl rfl (h.g0 G3) (hA3).sb (by simp; omega) (by have := G3.size; omega) ?_; intro v1 w1 o1 g1; have L1 := Loc.pre G3 g1; have f1 := hcf.out _ w1 _ v1 (by first | assumption | (go_keep)) g1 (hbo.out _ (Nat.le_refl _)); have n1 : v1.ownBlock ≠ some W.heap.size := Loc.own_ne g1 (by simp; omega) (hbo.out _ (Nat.le_refl _)); have dl := hD3.loc g1 (hbo.out _ (by omega)); have dn := Loc.own_ne g1 hD3.lt (hbo.out _ (by omega)); obtain ⟨x1, y1, rfl⟩ := o1.sv; rw [hq1.out] at o1 L1 g1 n1 dn ⊢; have H1 := Lib.hid (hcall.out w1 _ _ (hfar L1) o1 (by simp)); have H2 := Lib.hid (hcall.out (w1.alloc (.cells #[.int .u8 93] 5)) _ _ (hfar (L1.post (Gr.alloc _ _ _))) (o1.g0 (Gr.alloc _ _ _)) (by simp)))
      | (go_at_call 38; with_reducible refine (Hid.out H1).mono ?_; rintro e w2 ⟨v2, rfl, o2, g2⟩; have L2 := L1.trans g2; have f2 := hcf.out w1 w2 _ v2 f1 g2 n1; have n2 := Loc.own_ne g2 (by have := L1.gr.size; have := World.block_lt_of_cell? w1 _ f1; simpa using this) n1; obtain ⟨x2, y2, rfl⟩ := o2.sv; rw [hq2.out] at o2 L2 g2 n2 ⊢)
      | (go_at_call 38; with_reducible refine (Hid.out H2).mono ?_; rintro e w2 ⟨v2, rfl, o2, g2⟩; have L2 := (L1.post (Gr.alloc _ _ _)).trans g2; have f1a := hcg.out w1 _ f1 (Gr.alloc w1 (.cells #[.int .u8 93] 5) _); have f2 := hcf.out _ w2 _ v2 f1a g2 n1; have n2 := Loc.own_ne g2 (by have := World.block_lt_of_cell? _ _ f1a; simpa using this) n1; have dk := (Lit.new w1 93).loc g2 (o1.own _ (Nat.le_refl _)); obtain ⟨x2, y2, rfl⟩ := o2.sv; rw [hq2.out] at o2 L2 g2 n2 ⊢)
      | (refine step_ap rfl _ _ rfl base (.slice x2 _ y2) _ _ [93] rfl rfl (o2.g0 (Gr.alloc _ _ _)) (Lit.new w2 93).sb (by simp; omega) (by have := L2.gr.size; simp; omega) ?_; intro v3 w3 o3 g3; have L3 := L2.trans (Loc.pre (Gr.alloc _ _ _) g3); have f3 := hcf.out _ w3 _ v3 (hcg.out w2 _ f2 (Gr.alloc _ _ _)) g3 n2)
      | (refine step_ap rfl _ _ rfl base (.slice x2 _ y2) _ _ [93] rfl rfl o2 dk.sb (by simp; omega) (by have := L2.gr.size; simp; omega) ?_; intro v3 w3 o3 g3; have L3 := L2.trans g3; have f3 := hcf.out _ w3 _ v3 f2 g3 n2)
      | (refine step_ap rfl _ _ rfl base (.slice x2 _ y2) _ _ [93] rfl rfl o2 (dl.loc g2 dn).sb (by simp; omega) (by have := L2.gr.size; simp; omega) ?_; intro v3 w3 o3 g3; have L3 := L2.trans g3; have f3 := hcf.out _ w3 _ v3 f2 g3 n2)
      | fail)
  all_goals
    go_wp2_with fail
    go_ret
    refine ⟨v3, rfl, ?_, L3⟩
    simpa [List.append_assoc] using o3
end Go.Proofs.YtdmichjhmfinpaaGreatDoor
namespace Go.Proofs.YtdmichjhmfinpaaGreatDoor
open Go.RowKit Go.Maps
variable {S S' : Nat → Prop} {W W1 W' : World}
section
variable {w : World} {ops : Array Oper} {rest : List Oper} {o : Oper} {a : Act} {Q : Exit → Act → World → Prop} {K : Act → World → Prop} {E : Prop}
theorem step_aps (hgd : o.guard = none) (x y : Operand)
    (ho : o.op = .call { callee := .builtin .append, args := #[x, y], argTypes := #[28, 9] }) (base : Nat) (v : Value) (s : ByteArray) (l : List Int) (hx : a.eval x = v) (hy : a.eval y = .string s)
    (hv : Ob base w v l) (hlen : l.length + s.size ≤ 1000000) (hbase : base ≤ w.heap.size)
    (h : ∀ v' w', Ob base w' v' (l ++ tb s) → Loc v w v' w' → K (a.put o.dst v') w') :
    if Region.wanted o (yielded ops a.tmps) = true then Oper.wp Tryz.prog o a w K Q else E := by
  have hw : Region.wanted o (yielded ops a.tmps) = true := by simp [Region.wanted, hgd]
  rw [if_pos hw]
  obtain ⟨v', w', hr, h1, h2⟩ := aps_run w o.type base v s l hv hlen hbase
  unfold Oper.wp execOp
  simp only [ho, resolve, invoke, builtin, Sem.run_bind, Sem.run_pure, Result.andThen_ok, List.map_toArray, List.map_cons, List.map_nil, hx, hy, hr]
  exact h v' w' h1 h2
end
set_option maxRecDepth 20000 in
set_option maxHeartbeats 1600000 in
theorem putId_c (W : World) (base : Nat) (v : Value) (l : List Int) (i1 i2 i3 : Int) (p1 : 1 ≤ i1) (p2 : i1 ≤ 64) (p3 : 1 ≤ i2) (p4 : i2 ≤ 4294967295) (p5 : 1 ≤ i3) (p6 : i3 ≤ 18446744073709551615) (h : Ob base W v l) (hl : l.length ≤ 700000) (hb : base ≤ W.heap.size) (hB : 2 < base) (hT : Tb W) :
    Calls Tryz.prog 37 #[v, .agg #[.int .i64 i1, .int .u32 i2, .int .u64 i3]] W fun e w' => ∃ v', e = .returned v' ∧ Ob base w' v' (l ++ (di i1 ++ [46] ++ dd i2.toNat ++ [46] ++ dd i3.toNat)) ∧ Loc v W v' w' := by
  have hd1 : (di i1).length ≤ 20 := by rw [di_pos (by omega)]; exact dd_len _ (by omega)
  have hd2 : (dd i2.toNat).length ≤ 20 := dd_len _ (by omega)
  have hd3 : (dd i3.toNat).length ≤ 20 := dd_len _ (by omega)
  have hc1 := fun w b (g : Gr (fun k => base ≤ k) W w) (ho : Ob base w b l) => appendInt_c w base b l i1 (by omega) (by omega) ho (by omega) (by have := g.size; omega) hB (hT.gr g (by omega))
  have hc2 := fun w b (g : Gr (fun k => base ≤ k) W w) (ho : Ob base w b (l ++ di i1 ++ [46])) => appendUintP_c w base b (l ++ di i1 ++ [46]) i2.toNat (by omega) ho (by simp; omega) (by have := g.size; omega) (hT.gr g (by omega))
  have hc3 := fun w b (g : Gr (fun k => base ≤ k) W w) (ho : Ob base w b (l ++ di i1 ++ [46] ++ dd i2.toNat ++ [46])) => appendUintP_c w base b (l ++ di i1 ++ [46] ++ dd i2.toNat ++ [46]) i3.toNat (by omega) ho (by simp; omega) (by have := g.size; omega) (hT.gr g (by omega))
  rw [Int.toNat_of_nonneg (show 0 ≤ i2 by omega)] at hc2
  rw [Int.toNat_of_nonneg (show 0 ≤ i3 by omega)] at hc3
  have hx : Hid (l ++ (di i1 ++ [46] ++ dd i2.toNat ++ [46] ++ dd i3.toNat) = l ++ di i1 ++ [46] ++ dd i2.toNat ++ [46] ++ dd i3.toNat) := Lib.hid (by simp)
  rw [hx.out]
  clear hx
  generalize di i1 = D1 at *
  generalize dd i2.toNat = D2 at *
  generalize dd i3.toNat = D3 at *
  have hb2 : IntKind.u64.wrap i2 = i2 := by rw [IntKind.wrap_u64]; omega
  have hl1 : Hid ((l ++ D1).length ≤ 800000) := Lib.hid (by simp; omega)
  have hl2 : Hid ((l ++ D1 ++ [46] ++ D2).length ≤ 800000) := Lib.hid (by simp; omega)
  obtain ⟨m1, hm1⟩ : ∃ m, Hid ((l ++ D1).length = m) := ⟨_, Lib.hid rfl⟩
  obtain ⟨m2, hm2⟩ : ∃ m, Hid ((l ++ D1 ++ [46]).length = m) := ⟨_, Lib.hid rfl⟩
  obtain ⟨m3, hm3⟩ : ∃ m, Hid ((l ++ D1 ++ [46] ++ D2).length = m) := ⟨_, Lib.hid rfl⟩
  obtain ⟨m4, hm4⟩ : ∃ m, Hid ((l ++ D1 ++ [46] ++ D2 ++ [46]).length = m) := ⟨_, Lib.hid rfl⟩
  obtain ⟨ba, bc, rfl⟩ := h.sv
  have hfar := fun {w b'} (k : Loc (.slice ba l.length bc) W b' w) => k.far h
  clear p1 p2 p5 p6 hl hd1 hd2 hd3
  replace hc2 := Lib.hid hc2
  replace hc3 := Lib.hid hc3
  replace hc1 := Lib.hid hc1
  have hbx : ∀ g, W.heap.size ≤ g → (Value.slice ba l.length bc).ownBlock ≠ some g := h.own
  go_enter Tryz.func37, Tryz.ntmps37
  go_wp2_with fail
  generalize hW0 : W.alloc _ = W0
  have g0 : Gr (fun _ => False) W W0 := hW0 ▸ Gr.alloc _ _ _
  have hBx : W0.heap[W.heap.size]? = some (.cells #[.int .i64 i1, .int .u32 i2, .int .u64 i3] 27 (0, 0)) := hW0 ▸ heap_alloc_new W _
  clear hW0
  refine (hc1.out W0 _ (g0.mono (fun _ _ e => e.elim)) (h.g0 g0)).mono ?_
  rintro e w1 ⟨v1, rfl, o1, g1⟩
  have L1 := Loc.pre g0 g1
  have hB1 := g1.gr.keep hBx (hbx _ (Nat.le_refl _))
  have n1 : v1.ownBlock ≠ some W.heap.size := Loc.own_ne g1 (Array.getElem?_eq_some_iff.1 hBx).1 (hbx _ (Nat.le_refl _))
  obtain ⟨x1, y1, rfl⟩ := o1.sv
  rw [hm1.out] at o1 L1 n1 g1 ⊢
  obtain ⟨k0, k1, k2, -⟩ := three hB1
  have s1 : W.heap.size < w1.heap.size := (Array.getElem?_eq_some_iff.1 hB1).1
  have hbs : base ≤ w1.heap.size := by omega
  generalize hXX : W.heap.size = X at *
  have hcf : ∀ w w' : World, ∀ b b' : Value, ∀ i u, w.cell? ⟨X, i, none⟩ = some u → Loc b w b' w' → b.ownBlock ≠ some X → w'.cell? ⟨X, i, none⟩ = some u := fun w w' b b' i u hc k hne =>
    (World.cell?_of_block (w' := w') (w := w) (a := ⟨X, i, none⟩) (k.gr.block _ (World.block_lt_of_cell? w _ hc) hne)).trans hc
  replace hcf := Lib.hid hcf
  clear hBx hB1 g1 k0 hbx
  have hG1 : Gr (fun _ => False) w1 (w1.alloc (.cells #[.int .u8 46] 5)).drew := (Gr.alloc _ _ _).trans (Gr.drew _ _)
  have hA1 : Lit (w1.alloc (.cells #[.int .u8 46] 5)).drew w1.heap.size 46 := (Lit.new w1 46).g0 (Gr.drew _ _)
  go_wp2_with fail
  go_region_held3 (fun w' => w'.cell? ⟨X, 1, none⟩ = some (.int .u32 i2) ∧ w'.cell? ⟨X, 2, none⟩ = some (.int .u64 i3)) (first | assumption | go_keep | (refine ⟨?_, ?_⟩ <;> first | assumption | go_keep))
    (first
      | (refine step_ap rfl _ _ rfl base (.slice x1 _ y1) _ (l ++ D1) [46] rfl rfl (o1.g0 hG1) hA1.sb (by have := hl1.out; simp only [List.length_cons, List.length_nil]; omega) (by have := hG1.size; omega) ?_; intro v2 w2 o2 g2; have L2 := L1.trans (Loc.pre hG1 g2); have f1 := hcf.out _ w2 _ v2 1 (.int .u32 i2) (by first | assumption | go_keep) g2 n1; have f2 := hcf.out _ w2 _ v2 2 (.int .u64 i3) (by first | assumption | go_keep) g2 n1; have n2 : v2.ownBlock ≠ some X := Loc.own_ne g2 (by have := hG1.size; omega) n1; obtain ⟨x2, y2, rfl⟩ := o2.sv; rw [hm2.out] at o2 L2 g2 n2 ⊢; have H1 := Lib.hid (hc2.out w2 _ (hfar L2) o2))
      | (go_at_call 72; with_reducible refine (Hid.out H1).mono ?_; rintro e w3 ⟨v3, rfl, o3, g3⟩; have L3 := L2.trans g3; have f13 := hcf.out w2 w3 _ v3 1 _ f1 g3 n2; have f23 := hcf.out w2 w3 _ v3 2 _ f2 g3 n2; have n3 : v3.ownBlock ≠ some X := Loc.own_ne g3 (World.block_lt_of_cell? w2 _ f1) n2; obtain ⟨x3, y3, rfl⟩ := o3.sv; rw [hm3.out] at o3 L3 g3 n3 ⊢)
      | fail)
  all_goals
    have s3 : X < w3.heap.size := World.block_lt_of_cell? w3 _ f13
    have hbs3 : base ≤ w3.heap.size := by have := L3.gr.size; omega
    have hG3 : Gr (fun _ => False) w3 (w3.alloc (.cells #[.int .u8 46] 5)).drew := (Gr.alloc _ _ _).trans (Gr.drew _ _)
    have hA3 : Lit (w3.alloc (.cells #[.int .u8 46] 5)).drew w3.heap.size 46 := (Lit.new w3 46).g0 (Gr.drew _ _)
    clear k1 k2 f1 f2 hG1 hA1 H1 o1 o2 g2 L2 L1 n2 n1 g3
    go_wp2_with fail
    go_region_held3 (fun w' => w'.cell? ⟨X, 2, none⟩ = some (.int .u64 i3)) (first | assumption | go_keep)
      (first
        | (refine step_ap rfl _ _ rfl base (.slice x3 _ y3) _ (l ++ D1 ++ [46] ++ D2) [46] rfl rfl (o3.g0 hG3) hA3.sb (by have := hl2.out; simp only [List.length_cons, List.length_nil]; omega) (by have := hG3.size; omega) ?_; intro v4 w4 o4 g4; have L4 := L3.trans (Loc.pre hG3 g4); have f4 := hcf.out _ w4 _ v4 2 (.int .u64 i3) (by first | assumption | go_keep) g4 n3; have n4 : v4.ownBlock ≠ some X := Loc.own_ne g4 (by have := hG3.size; omega) n3; obtain ⟨x4, y4, rfl⟩ := o4.sv; rw [hm4.out] at o4 L4 g4 n4 ⊢; have H4 := Lib.hid (hc3.out w4 _ (hfar L4) o4))
        | (go_at_call 72; with_reducible refine (Hid.out H4).mono ?_; rintro e w5 ⟨v5, rfl, o5, g5⟩; have L5 := L4.trans g5; have f5 := hcf.out w4 w5 _ v5 2 _ f4 g5 n4)
        | fail)
  all_goals
    go_wp2_with fail
    go_ret
    exact ⟨v5, rfl, o5, L5⟩
set_option maxRecDepth 20000 in
set_option maxHeartbeats 600000 in
theorem put_int_k (n : Int) (hn : inR n = true) : PutK (.mk { k := 1, n := n } [] []) (di n) := by
  intro A W base b v l hrep hA h hl hb hB hT
  simp only [inR, Bool.and_eq_true, decide_eq_true_eq] at hn
  obtain ⟨hn1, hn2⟩ := hn
  obtain ⟨t, bs, l', a1, c1, a2, c2, e, rfl⟩ := hrep.ts
  cases e
  have hc := fun o => appendInt_c (W.alloc o) base b l n (by omega) (by omega) (h.g0 (Gr.alloc _ _ _)) (by omega) (by simp; omega) hB (hT.g0 (Gr.alloc _ _ _))
  obtain ⟨ba, bc, rfl⟩ := h.sv
  clear hn1 hn2 hl
  go_enter Tryz.func21, Tryz.ntmps21
  go_wp2_with (first
    | (go_at_call 35; refine (hc _).mono ?_; rintro e w1 ⟨v1, rfl, o1, g1⟩))
  go_ret
  exact ⟨v1, rfl, o1, Loc.pre (Gr.alloc _ _ _) g1⟩
set_option maxRecDepth 20000 in
set_option maxHeartbeats 1000000 in
theorem put_ref_k (i1 i2 i3 : Int) (p1 : 1 ≤ i1) (p2 : i1 ≤ 64) (p3 : 1 ≤ i2) (p4 : i2 ≤ 4294967295) (p5 : 1 ≤ i3) (p6 : i3 ≤ 18446744073709551615) :
    PutK (.mk { k := 4, a := i1, c := i2, d := i3 } [] []) (35 :: 114 :: (di i1 ++ [46] ++ dd i2.toNat ++ [46] ++ dd i3.toNat)) := by
  intro A W base b v l hrep hA h hl hb hB hT
  obtain ⟨t, bs, l', a1, c1, a2, c2, e, rfl⟩ := hrep.ts
  cases e
  have hx : Hid (l ++ 35 :: 114 :: (di i1 ++ [46] ++ dd i2.toNat ++ [46] ++ dd i3.toNat) = l ++ [35, 114] ++ (di i1 ++ [46] ++ dd i2.toNat ++ [46] ++ dd i3.toNat)) := Lib.hid (by simp)
  rw [hx.out]
  have hll : l.length ≤ 680000 := by omega
  have hcall := fun w b' (g : Gr (fun k => base ≤ k) W w) (ho : Ob base w b' (l ++ [35, 114])) => putId_c w base b' (l ++ [35, 114]) i1 i2 i3 p1 p2 p3 p4 p5 p6 ho (by simp; omega) (by have := g.size; omega) hB (hT.gr g (by omega))
  obtain ⟨ba, bc, rfl⟩ := h.sv
  clear p1 p2 p3 p4 p5 p6 hl hx
  generalize di i1 ++ [46] ++ dd i2.toNat ++ [46] ++ dd i3.toNat = P at *
  have hfar := fun {w b'} (k : Loc (.slice ba l.length bc) W b' w) => k.far h
  replace hcall := Lib.hid hcall
  go_enter Tryz.func21, Tryz.ntmps21
  go_wp2_with fail
  generalize hW0 : W.alloc _ = W0
  have g0 : Gr (fun _ => False) W W0 := hW0 ▸ Gr.alloc _ _ _
  have hBx : Bx W0 W.heap.size 4 0 0 0 e0 i1 i2 i3 (.slice a1 0 c1) (.slice a2 0 c2) := hW0 ▸ heap_alloc_new W _
  have hs0 : W.heap.size < W0.heap.size := by rw [← hW0]; simp
  clear hW0
  have hf := hBx.facts
  have hf4 := hf.2.2.2.2.1
  have hf5 := hf.2.2.2.2.2.1
  have hf6 := hf.2.2.2.2.2.2.1
  have hbo : ∀ g, W.heap.size ≤ g → (Value.slice ba l.length bc).ownBlock ≠ some g := h.own
  have hcf : ∀ w w' : World, ∀ b b' : Value, ∀ i u, w.cell? ⟨W.heap.size, i, none⟩ = some u → Loc b w b' w' → b.ownBlock ≠ some W.heap.size → w'.cell? ⟨W.heap.size, i, none⟩ = some u := fun w w' b b' i u hc k hne =>
    (World.cell?_of_block (w' := w') (w := w) (a := ⟨W.heap.size, i, none⟩) (k.gr.block _ (World.block_lt_of_cell? w _ hc) hne)).trans hc
  have htb : Hid (tb ⟨#[35, 114]⟩ = [35, 114]) := Lib.hid rfl
  have hq1 : Hid ((l ++ [35, 114]).length = l.length + 2) := Lib.hid (by simp)
  have hW0 : base ≤ W0.heap.size := by omega
  replace hcf := Lib.hid hcf
  replace hbo := Lib.hid hbo
  clear hf hBx
  go_region_held3 (fun w' => w'.cell? ⟨W.heap.size, 4, none⟩ = some (.int .i64 i1) ∧ w'.cell? ⟨W.heap.size, 5, none⟩ = some (.int .u32 i2) ∧ w'.cell? ⟨W.heap.size, 6, none⟩ = some (.int .u64 i3)) (first | assumption | go_keep | (refine ⟨?_, ?_, ?_⟩ <;> first | assumption | go_keep))
    (first
      | (refine step_aps rfl _ _ rfl base (.slice ba l.length bc) ⟨#[35, 114]⟩ l rfl rfl (h.g0 (g0.trans (Gr.drew _ _))) (by have : ByteArray.size ⟨#[35, 114]⟩ = 2 := rfl; omega) (by simpa using hW0) ?_; intro v1 w1 o1 g1; rw [htb.out] at o1; have L1 := Loc.pre (g0.trans (Gr.drew _ _)) g1; have f4 := hcf.out _ w1 _ v1 4 _ (by first | assumption | go_keep) g1 (hbo.out _ (Nat.le_refl _)); have f5 := hcf.out _ w1 _ v1 5 _ (by first | assumption | go_keep) g1 (hbo.out _ (Nat.le_refl _)); have f6 := hcf.out _ w1 _ v1 6 _ (by first | assumption | go_keep) g1 (hbo.out _ (Nat.le_refl _)); have n1 : v1.ownBlock ≠ some W.heap.size := Loc.own_ne g1 (by simp; omega) (hbo.out _ (Nat.le_refl _)); obtain ⟨x1, y1, rfl⟩ := o1.sv; rw [hq1.out] at o1 L1 g1 n1 ⊢; have H1 := Lib.hid (hcall.out w1 _ (hfar L1) o1))
      | (go_at_call 37; with_reducible refine (Hid.out H1).mono ?_; rintro e w2 ⟨v2, rfl, o2, g2⟩; have L2 := L1.trans g2; have f42 := hcf.out w1 w2 _ v2 4 _ f4 g2 n1; have f52 := hcf.out w1 w2 _ v2 5 _ f5 g2 n1; have f62 := hcf.out w1 w2 _ v2 6 _ f6 g2 n1)
      | fail)
  all_goals
    go_wp2_with fail
    go_ret
    exact ⟨v2, rfl, o2, L2⟩
set_option maxRecDepth 20000 in
set_option maxHeartbeats 1000000 in
theorem put_pid_k (i1 i2 i3 : Int) (p1 : 1 ≤ i1) (p2 : i1 ≤ 64) (p3 : 1 ≤ i2) (p4 : i2 ≤ 4294967295) (p5 : 1 ≤ i3) (p6 : i3 ≤ 18446744073709551615) :
    PutK (.mk { k := 5, a := i1, c := i2, d := i3 } [] []) (35 :: 112 :: (di i1 ++ [46] ++ dd i2.toNat ++ [46] ++ dd i3.toNat)) := by
  intro A W base b v l hrep hA h hl hb hB hT
  obtain ⟨t, bs, l', a1, c1, a2, c2, e, rfl⟩ := hrep.ts
  cases e
  have hx : Hid (l ++ 35 :: 112 :: (di i1 ++ [46] ++ dd i2.toNat ++ [46] ++ dd i3.toNat) = l ++ [35, 112] ++ (di i1 ++ [46] ++ dd i2.toNat ++ [46] ++ dd i3.toNat)) := Lib.hid (by simp)
  rw [hx.out]
  have hll : l.length ≤ 680000 := by omega
  have hcall := fun w b' (g : Gr (fun k => base ≤ k) W w) (ho : Ob base w b' (l ++ [35, 112])) => putId_c w base b' (l ++ [35, 112]) i1 i2 i3 p1 p2 p3 p4 p5 p6 ho (by simp; omega) (by have := g.size; omega) hB (hT.gr g (by omega))
  obtain ⟨ba, bc, rfl⟩ := h.sv
  clear p1 p2 p3 p4 p5 p6 hl hx
  generalize di i1 ++ [46] ++ dd i2.toNat ++ [46] ++ dd i3.toNat = P at *
  have hfar := fun {w b'} (k : Loc (.slice ba l.length bc) W b' w) => k.far h
  replace hcall := Lib.hid hcall
  go_enter Tryz.func21, Tryz.ntmps21
  go_wp2_with fail
  generalize hW0 : W.alloc _ = W0
  have g0 : Gr (fun _ => False) W W0 := hW0 ▸ Gr.alloc _ _ _
  have hBx : Bx W0 W.heap.size 5 0 0 0 e0 i1 i2 i3 (.slice a1 0 c1) (.slice a2 0 c2) := hW0 ▸ heap_alloc_new W _
  have hs0 : W.heap.size < W0.heap.size := by rw [← hW0]; simp
  clear hW0
  have hf := hBx.facts
  have hf4 := hf.2.2.2.2.1
  have hf5 := hf.2.2.2.2.2.1
  have hf6 := hf.2.2.2.2.2.2.1
  have hbo : ∀ g, W.heap.size ≤ g → (Value.slice ba l.length bc).ownBlock ≠ some g := h.own
  have hcf : ∀ w w' : World, ∀ b b' : Value, ∀ i u, w.cell? ⟨W.heap.size, i, none⟩ = some u → Loc b w b' w' → b.ownBlock ≠ some W.heap.size → w'.cell? ⟨W.heap.size, i, none⟩ = some u := fun w w' b b' i u hc k hne =>
    (World.cell?_of_block (w' := w') (w := w) (a := ⟨W.heap.size, i, none⟩) (k.gr.block _ (World.block_lt_of_cell? w _ hc) hne)).trans hc
  have htb : Hid (tb ⟨#[35, 112]⟩ = [35, 112]) := Lib.hid rfl
  have hq1 : Hid ((l ++ [35, 112]).length = l.length + 2) := Lib.hid (by simp)
  have hW0 : base ≤ W0.heap.size := by omega
  replace hcf := Lib.hid hcf
  replace hbo := Lib.hid hbo
  clear hf hBx
  go_region_held3 (fun w' => w'.cell? ⟨W.heap.size, 4, none⟩ = some (.int .i64 i1) ∧ w'.cell? ⟨W.heap.size, 5, none⟩ = some (.int .u32 i2) ∧ w'.cell? ⟨W.heap.size, 6, none⟩ = some (.int .u64 i3)) (first | assumption | go_keep | (refine ⟨?_, ?_, ?_⟩ <;> first | assumption | go_keep))
    (first
      | (refine step_aps rfl _ _ rfl base (.slice ba l.length bc) ⟨#[35, 112]⟩ l rfl rfl (h.g0 (g0.trans (Gr.drew _ _))) (by have : ByteArray.size ⟨#[35, 112]⟩ = 2 := rfl; omega) (by simpa using hW0) ?_; intro v1 w1 o1 g1; rw [htb.out] at o1; have L1 := Loc.pre (g0.trans (Gr.drew _ _)) g1; have f4 := hcf.out _ w1 _ v1 4 _ (by first | assumption | go_keep) g1 (hbo.out _ (Nat.le_refl _)); have f5 := hcf.out _ w1 _ v1 5 _ (by first | assumption | go_keep) g1 (hbo.out _ (Nat.le_refl _)); have f6 := hcf.out _ w1 _ v1 6 _ (by first | assumption | go_keep) g1 (hbo.out _ (Nat.le_refl _)); have n1 : v1.ownBlock ≠ some W.heap.size := Loc.own_ne g1 (by simp; omega) (hbo.out _ (Nat.le_refl _)); obtain ⟨x1, y1, rfl⟩ := o1.sv; rw [hq1.out] at o1 L1 g1 n1 ⊢; have H1 := Lib.hid (hcall.out w1 _ (hfar L1) o1))
      | (go_at_call 37; with_reducible refine (Hid.out H1).mono ?_; rintro e w2 ⟨v2, rfl, o2, g2⟩; have L2 := L1.trans g2; have f42 := hcf.out w1 w2 _ v2 4 _ f4 g2 n1; have f52 := hcf.out w1 w2 _ v2 5 _ f5 g2 n1; have f62 := hcf.out w1 w2 _ v2 6 _ f6 g2 n1)
      | fail)
  all_goals
    go_wp2_with fail
    go_ret
    exact ⟨v2, rfl, o2, L2⟩
set_option maxRecDepth 20000 in
set_option maxHeartbeats 1000000 in
theorem put_cx_k (x y : Nat) (hx : x < 18446744073709551616) (hy : y < 18446744073709551616) :
    PutK (.mk { k := 2, x := x, y := y } [] []) (35 :: 99 :: (hxs 16 x ++ hxs 16 y)) := by
  intro A W base b v l hrep hA h hl hb hB hT
  obtain ⟨t, bs, l', a1, c1, a2, c2, e, rfl⟩ := hrep.ts
  cases e
  have hxl : Hid (l ++ 35 :: 99 :: (hxs 16 x ++ hxs 16 y) = l ++ [35, 99] ++ hxs 16 x ++ hxs 16 y) := Lib.hid (by simp)
  rw [hxl.out]
  have hll : l.length ≤ 680000 := by omega
  have hl1 : (hxs 16 x).length = 16 := by simp [hxs]
  have hcall1 := fun w b' (g : Gr (fun k => base ≤ k) W w) (ho : Ob base w b' (l ++ [35, 99])) => putBits_c w base b' (l ++ [35, 99]) x hx ho (by simp; omega) (by have := g.size; omega)
  have hcall2 := fun w b' (g : Gr (fun k => base ≤ k) W w) (ho : Ob base w b' (l ++ [35, 99] ++ hxs 16 x)) => putBits_c w base b' (l ++ [35, 99] ++ hxs 16 x) y hy ho (by simp; omega) (by have := g.size; omega)
  obtain ⟨ba, bc, rfl⟩ := h.sv
  have hq2 : Hid ((l ++ [35, 99] ++ hxs 16 x).length = l.length + 18) := Lib.hid (by simp; omega)
  clear hl hxl hl1 hx hy
  generalize hxs 16 x = P at *
  generalize hxs 16 y = P2 at *
  have hfar := fun {w b'} (k : Loc (.slice ba l.length bc) W b' w) => k.far h
  replace hcall1 := Lib.hid hcall1
  replace hcall2 := Lib.hid hcall2
  go_enter Tryz.func21, Tryz.ntmps21
  go_wp2_with fail
  generalize hW0 : W.alloc _ = W0
  have g0 : Gr (fun _ => False) W W0 := hW0 ▸ Gr.alloc _ _ _
  have hBx : Bx W0 W.heap.size 2 0 x y e0 0 0 0 (.slice a1 0 c1) (.slice a2 0 c2) := hW0 ▸ heap_alloc_new W _
  have hs0 : W.heap.size < W0.heap.size := by rw [← hW0]; simp
  clear hW0
  have hf2 := hBx.facts.2.2.1
  have hbo : ∀ g, W.heap.size ≤ g → (Value.slice ba l.length bc).ownBlock ≠ some g := h.own
  have hcf : ∀ w w' : World, ∀ b b' : Value, w.cell? ⟨W.heap.size, 2, none⟩ = some (.complex .f64 x y) → Loc b w b' w' → b.ownBlock ≠ some W.heap.size → w'.cell? ⟨W.heap.size, 2, none⟩ = some (.complex .f64 x y) := fun w w' b b' hc k hne =>
    (World.cell?_of_block (w' := w') (w := w) (a := ⟨W.heap.size, 2, none⟩) (k.gr.block _ (World.block_lt_of_cell? w _ hc) hne)).trans hc
  have htb : Hid (tb ⟨#[35, 99]⟩ = [35, 99]) := Lib.hid rfl
  have hq1 : Hid ((l ++ [35, 99]).length = l.length + 2) := Lib.hid (by simp)
  have hW0 : base ≤ W0.heap.size := by omega
  replace hcf := Lib.hid hcf
  replace hbo := Lib.hid hbo
  clear hBx
  go_region_held3 (fun w' => w'.cell? ⟨W.heap.size, 2, none⟩ = some (.complex .f64 x y)) (first | assumption | go_keep)
    (first
      | (refine step_aps rfl _ _ rfl base (.slice ba l.length bc) ⟨#[35, 99]⟩ l rfl rfl (h.g0 (g0.trans (Gr.drew _ _))) (by have : ByteArray.size ⟨#[35, 99]⟩ = 2 := rfl; omega) (by simpa using hW0) ?_; intro v1 w1 o1 g1; rw [htb.out] at o1; have L1 := Loc.pre (g0.trans (Gr.drew _ _)) g1; have f1 := hcf.out _ w1 _ v1 (by first | assumption | go_keep) g1 (hbo.out _ (Nat.le_refl _)); have n1 : v1.ownBlock ≠ some W.heap.size := Loc.own_ne g1 (by simp; omega) (hbo.out _ (Nat.le_refl _)); obtain ⟨x1, y1, rfl⟩ := o1.sv; rw [hq1.out] at o1 L1 g1 n1 ⊢; have H1 := Lib.hid (hcall1.out w1 _ (hfar L1) o1))
      | (go_at_call 36; with_reducible refine (Hid.out H1).mono ?_; rintro e w2 ⟨v2, rfl, o2, g2⟩; have L2 := L1.trans g2; have f2 := hcf.out w1 w2 _ v2 f1 g2 n1; have n2 := Loc.own_ne g2 (by have := World.block_lt_of_cell? w1 _ f1; simpa using this) n1; obtain ⟨x2, y2, rfl⟩ := o2.sv; rw [hq2.out] at o2 L2 g2 n2 ⊢; have H2 := Lib.hid (hcall2.out w2 _ (hfar L2) o2))
      | (go_at_call 36; with_reducible refine (Hid.out H2).mono ?_; rintro e w3 ⟨v3, rfl, o3, g3⟩; have L3 := L2.trans g3; have f3 := hcf.out w2 w3 _ v3 f2 g3 n2)
      | fail)
  all_goals
    go_wp2_with fail
    go_ret
    exact ⟨v3, rfl, o3, L3⟩
end Go.Proofs.YtdmichjhmfinpaaGreatDoor
