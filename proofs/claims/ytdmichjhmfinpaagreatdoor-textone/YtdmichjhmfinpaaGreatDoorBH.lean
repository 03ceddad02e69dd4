/-
  The texts of leaves: an int of one sign and digit, an atom, bytes.
-/
import Derived.Test.YtdmichjhmfinpaaGreatDoorBG
import Derived.Test.YtdmichjhmfinpaaGreatDoorBB
import Derived.Deep.RegionHeld3
set_option linter.unusedVariables false
set_option linter.unusedSimpArgs false
namespace Go.Proofs.YtdmichjhmfinpaaGreatDoor
open Go.RowKit Go.Maps
variable {S S' : Nat → Prop} {W W1 W' : World}

/-- put lays the text txt behind what is there; n: room that it takes. -/
def PutOk (T : Tm) (txt : List Int) (n : Nat) : Prop := ∀ (A : Nat → Prop) (W : World) (base : Nat) (b v : Value) (l : List Int), Rep A W T v → (∀ k, A k → k < base) → Ob base W b l → l.length + n ≤ 700000 → base ≤ W.heap.size →
  Calls Tryz.prog 21 #[b, v] W fun e w' => ∃ b', e = .returned b' ∧ Ob base w' b' (l ++ txt) ∧ Loc b W b' w'
/-- A row of one byte. -/
def Lit (w : World) (g : Nat) (q : Int) : Prop := w.heap[g]? = some (.cells #[.int .u8 q] 5 (0, 0))
theorem Lit.sb {w : World} {g : Nat} {q : Int} (h : Lit w g q) : Sb w (.slice (some ⟨g, 0, none⟩) 1 1) [q] := by
  refine .inr ⟨⟨g, 0, none⟩, 1, rfl, fun j u hu => ?_⟩
  have hj : j < 1 := by simpa using (List.getElem?_eq_some_iff.1 hu).1
  obtain rfl : j = 0 := by omega
  unfold Lit at h
  simp [u8s] at hu
  subst hu
  simp [Addr.add, World.cell?, h]
theorem Lit.lt {w : World} {g : Nat} {q : Int} (h : Lit w g q) : g < w.heap.size := (Array.getElem?_eq_some_iff.1 h).1
theorem Lit.loc {w w' : World} {g : Nat} {q : Int} {b b' : Value} (h : Lit w g q) (k : Loc b w b' w') (hb : b.ownBlock ≠ some g) : Lit w' g q := k.gr.keep h hb
theorem Lit.g0 {w w' : World} {g : Nat} {q : Int} (h : Lit w g q) (k : Gr (fun _ => False) w w') : Lit w' g q := k.keep h (fun e => e)
theorem Lit.new (w : World) (q : Int) : Lit (w.alloc (.cells #[.int .u8 q] 5)) w.heap.size q := heap_alloc_new w _
theorem Loc.own_ne {w w' : World} {b b' : Value} {g : Nat} (k : Loc b w b' w') (hg : g < w.heap.size) (hb : b.ownBlock ≠ some g) : b'.ownBlock ≠ some g := by
  rcases k.at_ with h | h
  · rw [h]; exact hb
  · intro e; have := h g e; omega
theorem Ob.own {base : Nat} {b : Value} {l : List Int} (h : Ob base W b l) : ∀ g, W.heap.size ≤ g → b.ownBlock ≠ some g := fun g hg e => by have := (ownsRow_lt h.row g e).2; omega

set_option maxRecDepth 20000 in
set_option maxHeartbeats 600000 in
theorem put_int5 : PutOk (.mk { k := 1, n := -5 } [] []) [45, 53] 10 := by
  intro A W base b v l hrep hA h hl hb
  obtain ⟨t, bs, l', a1, c1, a2, c2, e, rfl⟩ := hrep.ts
  cases e
  obtain ⟨ba, bc, rfl⟩ := h.sv
  go_enter Tryz.func21, Tryz.ntmps21
  go_wp2_with (first
    | (go_at_call 35; refine (appendInt5_c _ base _ l (h.g0 (Gr.alloc _ _ _)) (by omega) (by simp; omega)).mono ?_; rintro e w1 ⟨v1, rfl, o1, g1⟩))
  go_ret
  exact ⟨v1, rfl, o1, Loc.pre (Gr.alloc _ _ _) g1⟩
set_option maxRecDepth 20000 in
set_option maxHeartbeats 600000 in
theorem put_atom (s : ByteArray) : PutOk (.mk { k := 3, s := s } [] []) (tb s) s.size := by
  intro A W base b v l hrep hA h hl hb
  obtain ⟨t, bs, l', a1, c1, a2, c2, e, rfl⟩ := hrep.ts
  cases e
  obtain ⟨ba, bc, rfl⟩ := h.sv
  go_enter Tryz.func21, Tryz.ntmps21
  go_wp2_with (first
    | (at_builtin; refine wpList_aps rfl _ _ rfl base _ s l rfl rfl (h.g0 (Gr.alloc _ _ _)) (by omega) (by simp; omega) ?_; intro v1 w1 o1 g1))
  go_ret
  exact ⟨v1, rfl, o1, Loc.pre (Gr.alloc _ _ _) g1⟩
set_option maxRecDepth 20000 in
set_option maxHeartbeats 1000000 in
theorem put_bytes (bs : List Int) (hbs : ∀ c ∈ bs, 0 ≤ c ∧ c < 256) : PutOk (.mk { k := 8 } bs []) ([34] ++ pbs bs ++ [34]) (4 * bs.length + 2) := by
  intro A W base b v l hrep hA h hl hb
  have hrep0 := hrep
  obtain ⟨bv, lv, vs, hv, hrb, -, -⟩ := hrep0
  obtain ⟨t, bs', l', a1, c1, a2, c2, e, rfl⟩ := hrep.ts
  cases e
  obtain rfl : bv = .slice a1 bs.length c1 := by simp [tv] at hv; exact hv.1.symm
  clear hv
  obtain ⟨ba, bc, rfl⟩ := h.sv
  have hcall := fun w b' l' (g : Gr (fun k => base ≤ k) W w) (ho : Ob base w b' l') (hln : l'.length ≤ l.length + 1) => putBytes_c A w base b' _ l' bs ho (hrb.turn (A' := A) (fun k hk hk2 => ⟨hk, g.block k hk2 (fun e => by have := hA k hk; omega)⟩)) hA hbs (by omega) (by have := g.size; omega)
  have hPl := pbs_len bs
  generalize bs.length = m at *
  generalize pbs bs = P at *
  have hfar := fun {w b'} (k : Loc (.slice ba l.length bc) W b' w) => k.far h
  clear hrb
  replace hcall := Lib.hid hcall
  go_enter Tryz.func21, Tryz.ntmps21
  go_wp2_with fail
  generalize hW0 : W.alloc _ = W0
  have g0 : Gr (fun _ => False) W W0 := hW0 ▸ Gr.alloc _ _ _
  have hBx : Bx W0 W.heap.size 8 0 0 0 e0 0 0 0 (.slice a1 m c1) (.slice a2 0 c2) := hW0 ▸ heap_alloc_new W _
  have hs0 : W.heap.size < W0.heap.size := by rw [← hW0]; simp
  clear hW0
  have hf7 := hBx.facts.2.2.2.2.2.2.2.1
  have hsz1 : ∀ o, (W0.alloc o).heap.size = W0.heap.size + 1 := fun o => by simp
  have hA1 : Lit (W0.alloc (.cells #[.int .u8 34] 5)).drew W0.heap.size 34 := (Lit.new W0 34).g0 (Gr.drew _ _)
  have hA2 : Lit ((W0.alloc (.cells #[.int .u8 34] 5)).alloc (.cells #[.int .u8 34] 5)).drew W0.heap.size 34 := ((Lit.new W0 34).g0 (Gr.alloc _ _ _)).g0 (Gr.drew _ _)
  have hD2 : Lit ((W0.alloc (.cells #[.int .u8 34] 5)).alloc (.cells #[.int .u8 34] 5)).drew (W0.heap.size + 1) 34 := by
    have := (Lit.new (W0.alloc (.cells #[.int .u8 34] 5)) 34).g0 (Gr.drew _ _); rw [hsz1] at this; exact this
  have hD3 : Lit ((W0.alloc (.cells #[.int .u8 34] 5)).alloc (.cells #[.int .u8 34] 5)).drew W0.heap.size 34 := ((Lit.new W0 34).g0 (Gr.alloc _ _ _)).g0 (Gr.drew _ _)
  have hA3 : Lit ((W0.alloc (.cells #[.int .u8 34] 5)).alloc (.cells #[.int .u8 34] 5)).drew (W0.heap.size + 1) 34 := by
    have := (Lit.new (W0.alloc (.cells #[.int .u8 34] 5)) 34).g0 (Gr.drew _ _); rw [hsz1] at this; exact this
  have G1 : Gr (fun _ => False) W (W0.alloc (.cells #[.int .u8 34] 5)).drew := (g0.trans (Gr.alloc _ _ _)).trans (Gr.drew _ _)
  have G2 : Gr (fun _ => False) W ((W0.alloc (.cells #[.int .u8 34] 5)).alloc (.cells #[.int .u8 34] 5)).drew := ((g0.trans (Gr.alloc _ _ _)).trans (Gr.alloc _ _ _)).trans (Gr.drew _ _)
  have G3 : Gr (fun _ => False) W ((W0.alloc (.cells #[.int .u8 34] 5)).alloc (.cells #[.int .u8 34] 5)).drew := ((g0.trans (Gr.alloc _ _ _)).trans (Gr.alloc _ _ _)).trans (Gr.drew _ _)
  have hbo : ∀ g, W.heap.size ≤ g → (Value.slice ba l.length bc).ownBlock ≠ some g := h.own
  have hW0 : W.heap.size ≤ W0.heap.size := g0.size
  have hcf : ∀ w w' : World, ∀ b b' : Value, w.cell? ⟨W.heap.size, 7, none⟩ = some (.slice a1 m c1) → Loc b w b' w' → b.ownBlock ≠ some W.heap.size → w'.cell? ⟨W.heap.size, 7, none⟩ = some (.slice a1 m c1) := fun w w' b b' hc k hne =>
    (World.cell?_of_block (w' := w') (w := w) (a := ⟨W.heap.size, 7, none⟩) (k.gr.block _ (World.block_lt_of_cell? w _ hc) hne)).trans hc
  clear hsz1
  have hcg : ∀ w w' : World, w.cell? ⟨W.heap.size, 7, none⟩ = some (.slice a1 m c1) → Gr (fun _ => False) w w' → w'.cell? ⟨W.heap.size, 7, none⟩ = some (.slice a1 m c1) := fun w w' hc k =>
    (World.cell?_of_block (w' := w') (w := w) (a := ⟨W.heap.size, 7, none⟩) (k.block _ (World.block_lt_of_cell? w _ hc) (fun e => e))).trans hc
  replace hcg := Lib.hid hcg
  have hq1 : Hid ((l ++ [34]).length = l.length + 1) := Lib.hid (by simp)
  have hq2 : Hid ((l ++ [34] ++ P).length = l.length + 1 + P.length) := Lib.hid (by simp; omega)
  replace hcf := Lib.hid hcf
  replace hbo := Lib.hid hbo
  go_region_held3 (fun w' => w'.cell? ⟨W.heap.size, 7, none⟩ = some (.slice a1 m c1)) (first | assumption | go_keep)
    (first
      | (refine step_ap rfl _ _ rfl base (.slice ba l.length bc) _ l [34] rfl rfl (h.g0 G1) (hA1).sb (by simp; omega) (by have := G1.size; omega) ?_; intro v1 w1 o1 g1; have L1 := Loc.pre G1 g1; have f1 := hcf.out _ w1 _ v1 (by first | assumption | (go_keep)) g1 (hbo.out _ (Nat.le_refl _)); have n1 : v1.ownBlock ≠ some W.heap.size := Loc.own_ne g1 (by simp; omega) (hbo.out _ (Nat.le_refl _)); obtain ⟨x1, y1, rfl⟩ := o1.sv; rw [hq1.out] at o1 L1 g1 n1 ⊢; have H1 := Lib.hid (hcall.out w1 _ _ (hfar L1) o1 (by simp)); have H2 := Lib.hid (hcall.out (w1.alloc (.cells #[.int .u8 34] 5)) _ _ (hfar (L1.post (Gr.alloc _ _ _))) (o1.g0 (Gr.alloc _ _ _)) (by simp)))
      | (refine step_ap rfl _ _ rfl base (.slice ba l.length bc) _ l [34] rfl rfl (h.g0 G2) (hA2).sb (by simp; omega) (by have := G2.size; omega) ?_; intro v1 w1 o1 g1; have L1 := Loc.pre G2 g1; have f1 := hcf.out _ w1 _ v1 (by first | assumption | (go_keep)) g1 (hbo.out _ (Nat.le_refl _)); have n1 : v1.ownBlock ≠ some W.heap.size := Loc.own_ne g1 (by simp; omega) (hbo.out _ (Nat.le_refl _)); have dl := hD2.loc g1 (hbo.out _ (by omega)); have dn := Loc.own_ne g1 hD2.lt (hbo.out _ (by omega)); obtain ⟨x1, y1, rfl⟩ := o1.sv; rw [hq1.out] at o1 L1 g1 n1 dn ⊢; have H1 := Lib.hid (hcall.out w1 _ _ (hfar L1) o1 (by simp)); have H2 := Lib.hid (hcall.out (w1.alloc (.cells #[.int .u8 34] 5)) _ _ (hfar (L1.post (Gr.alloc _ _ _))) (o1.g0 (Gr.alloc _ _ _)) (by simp)))
      | (refine step_ap rfl _ _ rfl base (.slice ba l.length bc) _ l [34] rfl rfl (h.g0 G3) (hA3).sb (by simp; omega) (by have := G3.size; omega) ?_; intro v1 w1 o1 g1; have L1 := Loc.pre G3 g1; have f1 := hcf.out _ w1 _ v1 (by first | assumption | (go_keep)) g1 (hbo.out _ (Nat.le_refl _)); have n1 : v1.ownBlock ≠ some W.heap.size := Loc.own_ne g1 (by simp; omega) (hbo.out _ (Nat.le_refl _)); have dl := hD3.loc g1 (hbo.out _ (by omega)); have dn := Loc.own_ne g1 hD3.lt (hbo.out _ (by omega)); obtain ⟨x1, y1, rfl⟩ := o1.sv; rw [hq1.out] at o1 L1 g1 n1 dn ⊢; have H1 := Lib.hid (hcall.out w1 _ _ (hfar L1) o1 (by simp)); have H2 := Lib.hid (hcall.out (w1.alloc (.cells #[.int .u8 34] 5)) _ _ (hfar (L1.post (Gr.alloc _ _ _))) (o1.g0 (Gr.alloc _ _ _)) (by simp)))
      | (go_at_call 39; with_reducible refine (Hid.out H1).mono ?_; rintro e w2 ⟨v2, rfl, o2, g2⟩; have L2 := L1.trans g2; have f2 := hcf.out w1 w2 _ v2 f1 g2 n1; have n2 := Loc.own_ne g2 (by have := L1.gr.size; have := World.block_lt_of_cell? w1 _ f1; simpa using this) n1; obtain ⟨x2, y2, rfl⟩ := o2.sv; rw [hq2.out] at o2 L2 g2 n2 ⊢)
      | (go_at_call 39; with_reducible refine (Hid.out H2).mono ?_; rintro e w2 ⟨v2, rfl, o2, g2⟩; have L2 := (L1.post (Gr.alloc _ _ _)).trans g2; have f1a := hcg.out w1 _ f1 (Gr.alloc w1 (.cells #[.int .u8 34] 5) _); have f2 := hcf.out _ w2 _ v2 f1a g2 n1; have n2 := Loc.own_ne g2 (by have := World.block_lt_of_cell? _ _ f1a; simpa using this) n1; have dk := (Lit.new w1 34).loc g2 (o1.own _ (Nat.le_refl _)); obtain ⟨x2, y2, rfl⟩ := o2.sv; rw [hq2.out] at o2 L2 g2 n2 ⊢)
      | (refine step_ap rfl _ _ rfl base (.slice x2 _ y2) _ _ [34] rfl rfl (o2.g0 (Gr.alloc _ _ _)) (Lit.new w2 34).sb (by simp; omega) (by have := L2.gr.size; simp; omega) ?_; intro v3 w3 o3 g3; have L3 := L2.trans (Loc.pre (Gr.alloc _ _ _) g3); have f3 := hcf.out _ w3 _ v3 (hcg.out w2 _ f2 (Gr.alloc _ _ _)) g3 n2)
      | (refine step_ap rfl _ _ rfl base (.slice x2 _ y2) _ _ [34] rfl rfl o2 dk.sb (by simp; omega) (by have := L2.gr.size; simp; omega) ?_; intro v3 w3 o3 g3; have L3 := L2.trans g3; have f3 := hcf.out _ w3 _ v3 f2 g3 n2)
      | (refine step_ap rfl _ _ rfl base (.slice x2 _ y2) _ _ [34] rfl rfl o2 (dl.loc g2 dn).sb (by simp; omega) (by have := L2.gr.size; simp; omega) ?_; intro v3 w3 o3 g3; have L3 := L2.trans g3; have f3 := hcf.out _ w3 _ v3 f2 g3 n2)
      | fail)
  all_goals
    go_wp2_with fail
    go_ret
    refine ⟨v3, rfl, ?_, L3⟩
    simpa [List.append_assoc] using o3
end Go.Proofs.YtdmichjhmfinpaaGreatDoor
