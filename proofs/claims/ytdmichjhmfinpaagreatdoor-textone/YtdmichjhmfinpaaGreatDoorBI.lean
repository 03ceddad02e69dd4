/-
  The text of a tuple.
-/
import Derived.Test.YtdmichjhmfinpaaGreatDoorBH
set_option linter.unusedVariables false
set_option linter.unusedSimpArgs false
namespace Go.Proofs.YtdmichjhmfinpaaGreatDoor
open Go.RowKit Go.Maps
variable {S S' : Nat → Prop} {W W1 W' : World}

/-- Texts, commas between them. -/
def etx : List (List Int) → List Int
  | [] => []
  | x :: r => x ++ r.flatMap fun y => 44 :: y
theorem etx_take (txs : List (List Int)) (j : Nat) (x : List Int) (h : txs[j]? = some x) : etx (txs.take (j + 1)) = etx (txs.take j) ++ (if j = 0 then x else 44 :: x) := by
  cases txs with
  | nil => simp at h
  | cons y r =>
    cases j with
    | zero => simp at h; subst h; simp [etx]
    | succ j =>
      simp only [List.getElem?_cons_succ] at h
      simp only [List.take_succ_cons, etx, Nat.add_one_ne_zero, if_false]
      rw [List.take_add_one, h]
      simp [List.append_assoc]
theorem etx_len (n : Nat) (txs : List (List Int)) (h : ∀ x ∈ txs, x.length ≤ n) : (etx txs).length ≤ (n + 1) * txs.length := by
  have hr : ∀ r : List (List Int), (∀ x ∈ r, x.length ≤ n) → (r.flatMap fun y => 44 :: y).length ≤ (n + 1) * r.length := by
    intro r
    induction r with
    | nil => simp
    | cons y r ih =>
      intro hy
      have h1 := hy y (List.mem_cons_self ..)
      have h2 := ih (fun x hx => hy x (List.mem_cons_of_mem _ hx))
      simp only [List.flatMap_cons, List.length_append, List.length_cons, Nat.mul_add, Nat.mul_one]
      omega
  cases txs with
  | nil => simp [etx]
  | cons y r =>
    have h1 := h y (List.mem_cons_self ..)
    have h2 := hr r (fun x hx => h x (List.mem_cons_of_mem _ hx))
    simp only [etx, List.length_append, List.length_cons, Nat.mul_add, Nat.mul_one]
    omega

set_option maxRecDepth 20000 in
set_option maxHeartbeats 1000000 in
theorem putElements_c (A : Nat → Prop) (W : World) (base : Nat) (b : Value) (l : List Int) (ra : Option Addr) (rc : Nat) (ts : List Tm) (txs : List (List Int)) (n : Nat)
    (h : Ob base W b l) (hel : ts ≠ [] → ∃ g, ra = some ⟨g, 0, none⟩ ∧ ts.length ≤ rc ∧ ∀ (k : Nat) x, ts[k]? = some x → At A W x g (k * 9)) (hA : ∀ k, A k → k < base)
    (htx : ∀ x ∈ txs, x.length ≤ n) (hlt : txs.length = ts.length) (hok : ∀ (k : Nat) T x, ts[k]? = some T → txs[k]? = some x → PutOk T x n) (hlen : l.length + (n + 1) * (ts.length + 1) ≤ 600000) (hb : base ≤ W.heap.size) (hts : ts.length ≤ 256) :
    Calls Tryz.prog 38 #[b, .slice ra ts.length rc] W fun e w' => ∃ b', e = .returned b' ∧ Ob base w' b' (l ++ etx txs) ∧ Loc b W b' w' := by
  obtain ⟨ba, bc, rfl⟩ := h.sv
  have hmI : (ts.length : Int) ≤ 256 := by omega
  go_enter Tryz.func38, Tryz.ntmps38
  go_wp2
  go_loopw [0, 9] (fun b i wr => ∃ j : Nat, j ≤ ts.length ∧ i = .int .i64 (j : Int) ∧ Ob base wr b (l ++ etx (txs.take j)) ∧ Loc (.slice ba l.length bc) W b wr) (fun _ i _ => ts.length - (intOf i).toNat)
  case atStart => exact ⟨0, Nat.zero_le _, rfl, by simpa [etx] using h, Loc.refl _ _⟩
  case round =>
    obtain ⟨j, hj, rfl, ho, hgl⟩ := hrel
    have hg := hgl.far h
    by_cases hjl : j < ts.length
    · obtain ⟨g, rfl, hrc, hat⟩ := hel (List.ne_nil_of_length_pos (by omega))
      obtain ⟨T, hT⟩ : ∃ T, ts[j]? = some T := ⟨_, List.getElem?_eq_getElem hjl⟩
      obtain ⟨x, hx⟩ : ∃ x, txs[j]? = some x := ⟨_, List.getElem?_eq_getElem (by omega)⟩
      have hput := hok j T x hT hx
      have hxn := htx x (List.mem_of_getElem? hx)
      have hstep := etx_take txs j x hx
      have hlo : (l ++ etx (txs.take j)).length + (n + 1) ≤ 600000 := by
        have := etx_len n (txs.take j) (fun x hx => htx x (List.mem_of_mem_take hx))
        rw [List.length_append]
        have h2 : (txs.take j).length ≤ ts.length := by simp; omega
        have h3 : (n + 1) * (txs.take j).length ≤ (n + 1) * ts.length := Nat.mul_le_mul_left _ h2
        rw [Nat.mul_add, Nat.mul_one] at hlen
        omega
      have hatw : At A wr T g (j * 9) := (hat j T hT).turn (fun k hk => hg.block k (by have := hA k hk; omega) (by have := hA k hk; omega))
      obtain ⟨-, v, hrep, hns⟩ := hatw
      have hns : Ns wr g (j * 9) v := hns
      obtain ⟨tk, tn, tx, ty, tS, ta, tc, td, b1, m1, d1, b2, m2, d2, rfl⟩ := hrep.agg
      obtain ⟨t0, t1, t2, t3, t4, t5, t6, t7, t8⟩ := hns.facts
      have hbw : base ≤ wr.heap.size := by have := hg.size; omega
      have hjI : (j : Int) < (ts.length : Int) := by omega
      have hA2 : ∀ k, A k → k < wr.heap.size := fun k hk => by have := hA k hk; omega
      obtain ⟨L, hL⟩ : ∃ L, l ++ etx (txs.take j) = L := ⟨_, rfl⟩
      have hend : Hid (l ++ etx (txs.take (j + 1)) = L ++ (if j = 0 then x else 44 :: x)) := Lib.hid (by rw [hstep, ← List.append_assoc, hL])
      rw [hL] at ho hlo
      have hrepg := fun w' (k : Gr (fun k => base ≤ k) wr w') => hrep.turn (A' := A) (W' := w') (fun i hi _ => ⟨hi, k.block i (hA2 i hi) (fun e => by have := hA i hi; omega)⟩)
      clear hL hstep hT hx hok htx hel hat hrep hlen hlt
      obtain ⟨xa, xc, rfl⟩ := ho.sv
      by_cases h0 : j = 0
      · subst h0
        simp only [if_true] at hend
        have hP := fun o => hput A (wr.alloc o) base _ _ L (hrepg _ (Gr.alloc _ _ _)) hA (ho.g0 (Gr.alloc _ _ _)) (by omega) (by simp; omega)
        replace hP := Lib.hid hP
        clear hput hrepg
        go_wp2_with (first
          | (go_at_call 21; with_reducible refine (Hid.out hP _).mono ?_; rintro e w1 ⟨b1', rfl, o1, g1⟩))
        exact ⟨⟨1, by omega, by go_num, by rw [hend.out]; exact o1, hgl.trans (Loc.pre (Gr.alloc _ _ _) g1)⟩, by simp [intOf]; omega⟩
      · have hj0 : (0 : Int) < (j : Int) := by omega
        rw [if_neg h0] at hend
        have hq1 : Hid ((L ++ [44]).length = L.length + 1) := Lib.hid (by simp)
        have hBx : Bx ((wr.alloc (.cells #[.int .i64 tk, .int .i64 tn, .complex .f64 tx ty, .string tS, .int .i64 ta, .int .u32 tc, .int .u64 td, .slice b1 m1 d1, .slice b2 m2 d2] 31)).alloc (.cells #[.int .u8 44] 5)) wr.heap.size tk tn tx ty tS ta tc td (.slice b1 m1 d1) (.slice b2 m2 d2) :=
          (Gr.alloc _ _ (fun _ => False)).keep (heap_alloc_new wr _) (fun e => e)
        have hlit : Lit ((wr.alloc (.cells #[.int .i64 tk, .int .i64 tn, .complex .f64 tx ty, .string tS, .int .i64 ta, .int .u32 tc, .int .u64 td, .slice b1 m1 d1, .slice b2 m2 d2] 31)).alloc (.cells #[.int .u8 44] 5)) (wr.heap.size + 1) 44 := by
          have := Lit.new (wr.alloc (.cells #[.int .i64 tk, .int .i64 tn, .complex .f64 tx ty, .string tS, .int .i64 ta, .int .u32 tc, .int .u64 td, .slice b1 m1 d1, .slice b2 m2 d2] 31)) 44
          rw [World.size_alloc] at this; exact this
        replace hBx := Lib.hid hBx
        replace hrepg := Lib.hid hrepg
        go_wp2_with (first
          | (at_builtin; refine wpList_ap rfl _ _ rfl base _ _ L [44] rfl rfl ((ho.g0 (Gr.alloc _ _ _)).g0 (Gr.alloc _ _ _)) hlit.sb (by simp; omega) (by simp; omega) ?_; intro v1 w1 o1 g1
             have L1 := Loc.pre ((Gr.alloc wr _ _).trans (Gr.alloc _ _ _)) g1
             have hB1 : Bx w1 wr.heap.size tk tn tx ty tS ta tc td (.slice b1 m1 d1) (.slice b2 m2 d2) := g1.gr.keep hBx.out (ho.own _ (Nat.le_refl _))
             have hf1 := hB1.facts
             have hs1 : wr.heap.size < w1.heap.size := hB1.lt
             obtain ⟨ya, yc, rfl⟩ := o1.sv
             rw [hq1.out] at o1 L1 ⊢
             have H := Lib.hid (hput A w1 base _ _ (L ++ [44]) (hrepg.out w1 (L1.far ho)) hA o1 (by rw [hq1.out]; omega) (by omega)))
          | (go_at_call 21; with_reducible refine (Hid.out H).mono ?_; rintro e w2 ⟨b2', rfl, o2, g2⟩))
        exact ⟨⟨j + 1, by omega, by go_num, by rw [hend.out]; rw [List.append_assoc] at o2; exact o2, hgl.trans (L1.trans g2)⟩, by simp [intOf]; omega⟩
    · obtain rfl : j = ts.length := by omega
      rw [List.take_of_length_le (by omega)] at ho
      go_wp2
      go_ret
      exact ⟨_, rfl, ho, hgl⟩

set_option maxRecDepth 20000 in
set_option maxHeartbeats 1000000 in
theorem put_tuple (ts : List Tm) (txs : List (List Int)) (n : Nat) (htx : ∀ x ∈ txs, x.length ≤ n) (hlt : txs.length = ts.length) (hok : ∀ (k : Nat) T x, ts[k]? = some T → txs[k]? = some x → PutOk T x n) (hts : ts.length ≤ 256) (hn : (n + 1) * (ts.length + 1) ≤ 290000) :
    PutOk (.mk { k := 6 } [] ts) ([123] ++ etx txs ++ [125]) (400000) := by
  intro A W base b v l hrep hA h hl hb
  have hrow : ∃ a1 c1 a2 c2, v = Go.Proofs.YtdmichjhmfinpaaGreatDoor.ts 6 0 0 0 e0 0 0 0 a1 0 c1 a2 ts.length c2 ∧ (ts ≠ [] → ∃ g, a2 = some ⟨g, 0, none⟩ ∧ ts.length ≤ c2 ∧ ∀ (k : Nat) x, ts[k]? = some x → At A W x g (k * 9)) := by
    obtain ⟨bv, lv, vs, rfl, k1, k2, k3⟩ := hrep
    obtain ⟨a1, c1, rfl⟩ : ∃ a c, bv = .slice a 0 c := by
      rcases k1 with ⟨_, a, c, rfl⟩ | ⟨g, cap, cur, rfl, _⟩
      · exact ⟨a, c, rfl⟩
      · exact ⟨_, cap, rfl⟩
    rcases k2 with ⟨e0', a2, c2, rfl⟩ | ⟨g, cap, cur, rfl, hg, hcur, hcap, htake⟩
    · exact ⟨a1, c1, a2, c2, by rw [e0'], fun e => absurd (List.length_eq_zero_iff.1 e0') e⟩
    · refine ⟨a1, c1, _, cap, rfl, fun _ => ⟨g, rfl, hcap, fun k x hx => ?_⟩⟩
      obtain ⟨w, r1, r2⟩ := reps_at ts vs k3 k x hx
      refine ⟨hg, w, r1, fun j u hu => ?_⟩
      have e := r2 j u hu
      rw [← htake] at e
      have hlt : k * 9 + j < ts.length * 9 := by
        rcases Nat.lt_or_ge (k * 9 + j) (ts.length * 9) with h | h
        · exact h
        · rw [List.getElem?_eq_none (by simp; omega)] at e; cases e
      rw [List.getElem?_take_of_lt hlt] at e
      simp only [World.cell?, hcur]
      simpa using e
  obtain ⟨a1, c1, a2, c2, rfl, hel⟩ := hrow
  obtain ⟨ba, bc, rfl⟩ := h.sv
  have hcall := fun w b' l' (g : Gr (fun k => base ≤ k) W w) (ho : Ob base w b' l') (hln : l'.length ≤ l.length + 1) => putElements_c A w base b' l' a2 c2 ts txs n ho
    (fun hne => by obtain ⟨gg, h1, h2, h3⟩ := hel hne; exact ⟨gg, h1, h2, fun k x hx => (h3 k x hx).turn (fun i hi => g.block i (by have := hA i hi; omega) (by have := hA i hi; omega))⟩) hA htx hlt hok (by omega) (by have := g.size; omega) hts
  have hPl := etx_len n txs htx
  have hPl2 : (etx txs).length ≤ 300000 := by
    have : (n + 1) * txs.length ≤ (n + 1) * (ts.length + 1) := Nat.mul_le_mul_left _ (by omega)
    omega
  clear hel hPl hok htx hlt hts hn hrep
  generalize ts.length = m at *
  generalize etx txs = P at *
  have hfar := fun {w b'} (k : Loc (.slice ba l.length bc) W b' w) => k.far h
  replace hcall := Lib.hid hcall
  go_enter Tryz.func21, Tryz.ntmps21
  go_wp2_with fail
  generalize hW0 : W.alloc _ = W0
  have g0 : Gr (fun _ => False) W W0 := hW0 ▸ Gr.alloc _ _ _
  have hBx : Bx W0 W.heap.size 6 0 0 0 e0 0 0 0 (.slice a1 0 c1) (.slice a2 m c2) := hW0 ▸ heap_alloc_new W _
  have hs0 : W.heap.size < W0.heap.size := by rw [← hW0]; simp
  clear hW0
  have hf8 := hBx.facts.2.2.2.2.2.2.2.2
  have hsz1 : ∀ o, (W0.alloc o).heap.size = W0.heap.size + 1 := fun o => by simp
  have hA1 : Lit (W0.alloc (.cells #[.int .u8 123] 5)).drew W0.heap.size 123 := (Lit.new W0 123).g0 (Gr.drew _ _)
  have hA2 : Lit ((W0.alloc (.cells #[.int .u8 123] 5)).alloc (.cells #[.int .u8 125] 5)).drew W0.heap.size 123 := ((Lit.new W0 123).g0 (Gr.alloc _ _ _)).g0 (Gr.drew _ _)
  have hD2 : Lit ((W0.alloc (.cells #[.int .u8 123] 5)).alloc (.cells #[.int .u8 125] 5)).drew (W0.heap.size + 1) 125 := by
    have := (Lit.new (W0.alloc (.cells #[.int .u8 123] 5)) 125).g0 (Gr.drew _ _); rw [hsz1] at this; exact this
  have hD3 : Lit ((W0.alloc (.cells #[.int .u8 125] 5)).alloc (.cells #[.int .u8 123] 5)).drew W0.heap.size 125 := ((Lit.new W0 125).g0 (Gr.alloc _ _ _)).g0 (Gr.drew _ _)
  have hA3 : Lit ((W0.alloc (.cells #[.int .u8 125] 5)).alloc (.cells #[.int .u8 123] 5)).drew (W0.heap.size + 1) 123 := by
    have := (Lit.new (W0.alloc (.cells #[.int .u8 125] 5)) 123).g0 (Gr.drew _ _); rw [hsz1] at this; exact this
  have G1 : Gr (fun _ => False) W (W0.alloc (.cells #[.int .u8 123] 5)).drew := (g0.trans (Gr.alloc _ _ _)).trans (Gr.drew _ _)
  have G2 : Gr (fun _ => False) W ((W0.alloc (.cells #[.int .u8 123] 5)).alloc (.cells #[.int .u8 125] 5)).drew := ((g0.trans (Gr.alloc _ _ _)).trans (Gr.alloc _ _ _)).trans (Gr.drew _ _)
  have G3 : Gr (fun _ => False) W ((W0.alloc (.cells #[.int .u8 125] 5)).alloc (.cells #[.int .u8 123] 5)).drew := ((g0.trans (Gr.alloc _ _ _)).trans (Gr.alloc _ _ _)).trans (Gr.drew _ _)
  have hbo : ∀ g, W.heap.size ≤ g → (Value.slice ba l.length bc).ownBlock ≠ some g := h.own
  have hW0 : W.heap.size ≤ W0.heap.size := g0.size
  have hcf : ∀ w w' : World, ∀ b b' : Value, w.cell? ⟨W.heap.size, 8, none⟩ = some (.slice a2 m c2) → Loc b w b' w' → b.ownBlock ≠ some W.heap.size → w'.cell? ⟨W.heap.size, 8, none⟩ = some (.slice a2 m c2) := fun w w' b b' hc k hne =>
    (World.cell?_of_block (w' := w') (w := w) (a := ⟨W.heap.size, 8, none⟩) (k.gr.block _ (World.block_lt_of_cell? w _ hc) hne)).trans hc
  clear hsz1
  have hcg : ∀ w w' : World, w.cell? ⟨W.heap.size, 8, none⟩ = some (.slice a2 m c2) → Gr (fun _ => False) w w' → w'.cell? ⟨W.heap.size, 8, none⟩ = some (.slice a2 m c2) := fun w w' hc k =>
    (World.cell?_of_block (w' := w') (w := w) (a := ⟨W.heap.size, 8, none⟩) (k.block _ (World.block_lt_of_cell? w _ hc) (fun e => e))).trans hc
  replace hcg := Lib.hid hcg
  have hq1 : Hid ((l ++ [123]).length = l.length + 1) := Lib.hid (by simp)
  have hq2 : Hid ((l ++ [123] ++ P).length = l.length + 1 + P.length) := Lib.hid (by simp; omega)
  replace hcf := Lib.hid hcf
  replace hbo := Lib.hid hbo
  go_region_held3 (fun w' => w'.cell? ⟨W.heap.size, 8, none⟩ = some (.slice a2 m c2)) (first | assumption | go_keep)
    (first
      | (refine step_ap rfl _ _ rfl base (.slice ba l.length bc) _ l [123] rfl rfl (h.g0 G1) (hA1).sb (by simp; omega) (by have := G1.size; omega) ?_; intro v1 w1 o1 g1; have L1 := Loc.pre G1 g1; have f1 := hcf.out _ w1 _ v1 (by first | assumption | (go_keep)) g1 (hbo.out _ (Nat.le_refl _)); have n1 : v1.ownBlock ≠ some W.heap.size := Loc.own_ne g1 (by simp; omega) (hbo.out _ (Nat.le_refl _)); obtain ⟨x1, y1, rfl⟩ := o1.sv; rw [hq1.out] at o1 L1 g1 n1 ⊢; have H1 := Lib.hid (hcall.out w1 _ _ (hfar L1) o1 (by simp)); have H2 := Lib.hid (hcall.out (w1.alloc (.cells #[.int .u8 125] 5)) _ _ (hfar (L1.post (Gr.alloc _ _ _))) (o1.g0 (Gr.alloc _ _ _)) (by simp)))
      | (refine step_ap rfl _ _ rfl base (.slice ba l.length bc) _ l [123] rfl rfl (h.g0 G2) (hA2).sb (by simp; omega) (by have := G2.size; omega) ?_; intro v1 w1 o1 g1; have L1 := Loc.pre G2 g1; have f1 := hcf.out _ w1 _ v1 (by first | assumption | (go_keep)) g1 (hbo.out _ (Nat.le_refl _)); have n1 : v1.ownBlock ≠ some W.heap.size := Loc.own_ne g1 (by simp; omega) (hbo.out _ (Nat.le_refl _)); have dl := hD2.loc g1 (hbo.out _ (by omega)); have dn := Loc.own_ne g1 hD2.lt (hbo.out _ (by omega)); obtain ⟨x1, y1, rfl⟩ := o1.sv; rw [hq1.out] at o1 L1 g1 n1 dn ⊢; have H1 := Lib.hid (hcall.out w1 _ _ (hfar L1) o1 (by simp)); have H2 := Lib.hid (hcall.out (w1.alloc (.cells #[.int .u8 125] 5)) _ _ (hfar (L1.post (Gr.alloc _ _ _))) (o1.g0 (Gr.alloc _ _ _)) (by simp)))
      | (refine step_ap rfl _ _ rfl base (.slice ba l.length bc) _ l [123] rfl rfl (h.g0 G3) (hA3).sb (by simp; omega) (by have := G3.size; omega) ?_; intro v1 w1 o1 g1; have L1 := Loc.pre G3 g1; have f1 := hcf.out _ w1 _ v1 (by first | assumption | (go_keep)) g1 (hbo.out _ (Nat.le_refl _)); have n1 : v1.ownBlock ≠ some W.heap.size := Loc.own_ne g1 (by simp; omega) (hbo.out _ (Nat.le_refl _)); have dl := hD3.loc g1 (hbo.out _ (by omega)); have dn := Loc.own_ne g1 hD3.lt (hbo.out _ (by omega)); obtain ⟨x1, y1, rfl⟩ := o1.sv; rw [hq1.out] at o1 L1 g1 n1 dn ⊢; have H1 := Lib.hid (hcall.out w1 _ _ (hfar L1) o1 (by simp)); have H2 := Lib.hid (hcall.out (w1.alloc (.cells #[.int .u8 125] 5)) _ _ (hfar (L1.post (Gr.alloc _ _ _))) (o1.g0 (Gr.alloc _ _ _)) (by simp)))
      | (go_at_call 38; with_reducible refine (Hid.out H1).mono ?_; rintro e w2 ⟨v2, rfl, o2, g2⟩; have L2 := L1.trans g2; have f2 := hcf.out w1 w2 _ v2 f1 g2 n1; have n2 := Loc.own_ne g2 (by have := L1.gr.size; have := World.block_lt_of_cell? w1 _ f1; simpa using this) n1; obtain ⟨x2, y2, rfl⟩ := o2.sv; rw [hq2.out] at o2 L2 g2 n2 ⊢)
      | (go_at_call 38; with_reducible refine (Hid.out H2).mono ?_; rintro e w2 ⟨v2, rfl, o2, g2⟩; have L2 := (L1.post (Gr.alloc _ _ _)).trans g2; have f1a := hcg.out w1 _ f1 (Gr.alloc w1 (.cells #[.int .u8 125] 5) _); have f2 := hcf.out _ w2 _ v2 f1a g2 n1; have n2 := Loc.own_ne g2 (by have := World.block_lt_of_cell? _ _ f1a; simpa using this) n1; have dk := (Lit.new w1 125).loc g2 (o1.own _ (Nat.le_refl _)); obtain ⟨x2, y2, rfl⟩ := o2.sv; rw [hq2.out] at o2 L2 g2 n2 ⊢)
      | (refine step_ap rfl _ _ rfl base (.slice x2 _ y2) _ _ [125] rfl rfl (o2.g0 (Gr.alloc _ _ _)) (Lit.new w2 125).sb (by simp; omega) (by have := L2.gr.size; simp; omega) ?_; intro v3 w3 o3 g3; have L3 := L2.trans (Loc.pre (Gr.alloc _ _ _) g3); have f3 := hcf.out _ w3 _ v3 (hcg.out w2 _ f2 (Gr.alloc _ _ _)) g3 n2)
      | (refine step_ap rfl _ _ rfl base (.slice x2 _ y2) _ _ [125] rfl rfl o2 dk.sb (by simp; omega) (by have := L2.gr.size; simp; omega) ?_; intro v3 w3 o3 g3; have L3 := L2.trans g3; have f3 := hcf.out _ w3 _ v3 f2 g3 n2)
      | (refine step_ap rfl _ _ rfl base (.slice x2 _ y2) _ _ [125] rfl rfl o2 (dl.loc g2 dn).sb (by simp; omega) (by have := L2.gr.size; simp; omega) ?_; intro v3 w3 o3 g3; have L3 := L2.trans g3; have f3 := hcf.out _ w3 _ v3 f2 g3 n2)
      | fail)
  all_goals
    go_wp2_with fail
    go_ret
    refine ⟨v3, rfl, ?_, L3⟩
    simpa [List.append_assoc] using o3
end Go.Proofs.YtdmichjhmfinpaaGreatDoor
