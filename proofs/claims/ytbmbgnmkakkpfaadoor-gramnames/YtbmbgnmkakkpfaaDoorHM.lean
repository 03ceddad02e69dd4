/-
  A tree that came in; the walk of GramNames.
-/
import Derived.Test.YtbmbgnmkakkpfaaDoorJS
import Derived.Test.YtbmbgnmkakkpfaaDoorJT
import Derived.Test.YtbmbgnmkakkpfaaDoorGU
import Derived.Test.YtbmbgnmkakkpfaaDoorGO
import Derived.Test.YtbmbgnmkakkpfaaDoorGL
set_option linter.unusedVariables false
set_option linter.unusedSimpArgs false
namespace Go.Proofs.YtbmbgnmkakkpfaaDoor
open Go.RowKit Go.Maps
variable {W W' : World}
theorem sl_gr {tb : Nat} {k : Int} {s : ByteArray} {n : Int} {bv lv : Value} (h : SL tb k s n bv lv W) (g : Gr (fun _ => False) W W') : SL tb k s n bv lv W' :=
  ⟨cell_gr h.1 g (fun e => e), cell_gr h.2.1 g (fun e => e), cell_gr h.2.2.1 g (fun e => e), cell_gr h.2.2.2.1 g (fun e => e), cell_gr h.2.2.2.2 g (fun e => e)⟩
set_option maxRecDepth 100000 in
set_option maxHeartbeats 1600000 in
theorem gnames_c (W : World) (T : Tr) (v : Value) (hR : RepG (fun k => k < W.heap.size) W T v) (hs : Szs [T]) (hE : Er W) (hS : Sg W) (hL : Lv W) : Calls Tryd.prog 3 #[v] W fun e w' => e = .returned (.bool true) ∧ Gr (fun _ => False) W w' := by
  obtain ⟨tk, tt, tn, a1, n1, c1, a2, n2, c2, rfl⟩ := hR.agg
  have gB := Gr.alloc W (.cells #[.int .i64 tk, .string tt, .int .i64 tn, .slice a1 n1 c1, .slice a2 n2 c2] 25) (fun _ => False)
  have hB := heap_alloc_new W (.cells #[.int .i64 tk, .string tt, .int .i64 tn, .slice a1 n1 c1, .slice a2 n2 c2] 25)
  have hal := alive_c _ (hE.gr gB (fun e => e)) (hS.gr gB (fun e => e)) (hL.gr gB (fun e => e) (fun e => e))
  go_enter Tryd.func3, Tryd.ntmps3
  go_wp2_with fail
  generalize W.alloc _ = WB at gB hB hal ⊢
  obtain ⟨tb, htb⟩ : ∃ tb, W.heap.size = tb := ⟨_, rfl⟩
  rw [htb] at hB ⊢
  refine hal.mono ?_
  rintro e w1 ⟨rfl, g1⟩
  have G1 := gB.trans g1
  obtain ⟨⟨m0, m1, m2, m3, m4⟩, _⟩ := five_cells (g1.keep hB (fun e => e))
  have T1 : SL tb tk tt tn (.slice a1 n1 c1) (.slice a2 n2 c2) w1 := ⟨m0, m1, m2, m3, m4⟩
  have hRx : ∀ w, Gr (fun _ => False) w1 w → RepG (fun k => k < w.heap.size) w T (trv tk tt tn (.slice a1 n1 c1) (.slice a2 n2 c2)) := fun w g => hR.turn (fun z hz hl => ⟨Nat.lt_of_lt_of_le hz (G1.trans g).size, (G1.trans g).block z hl (fun e => e)⟩)
  have hlg : Hid (∀ w, Gr (fun _ => False) w1 w → Calls Tryd.prog 8 #[trv tk tt tn (.slice a1 n1 c1) (.slice a2 n2 c2)] w fun e w' => ∃ r, e = .returned (.bool r) ∧ Gr (fun _ => False) w w') := fun w g => largeg_c w T _ (hRx w g) hs
  have hnm : Hid (∀ w, Gr (fun _ => False) w1 w → Calls Tryd.prog 10 #[trv tk tt tn (.slice a1 n1 c1) (.slice a2 n2 c2)] w fun e w' => ∃ v', e = .returned v' ∧ Ns w.heap.size w' v' (nms ((preL [T]).take 4000)) ∧ Gr (fun _ => False) w w') := fun w g => namesg_c w T _ (hRx w g) hs
  have hrf : Hid (∀ w, Gr (fun _ => False) w1 w → Calls Tryd.prog 11 #[trv tk tt tn (.slice a1 n1 c1) (.slice a2 n2 c2)] w fun e w' => ∃ v', e = .returned v' ∧ Ns w.heap.size w' v' (nms ((preL [T]).take 4000)) ∧ Gr (fun _ => False) w w') := fun w g => refnamesg_c w T _ (hRx w g)
  have hG0 : Hid (∀ w, Gr (fun _ => False) w1 w → Gr (fun _ => False) W w) := fun w g => G1.trans g
  have htw : tb < w1.heap.size := World.block_lt_of_cell? _ _ m0
  clear hRx hR hal hE hS hL m0 m1 m2 m3 m4 hB gB g1 G1
  go_wp2_with fail
  refine wp_region_L (T := SL tb tk tt tn (.slice a1 n1 c1) (.slice a2 n2 c2)) (L := 9) (by kernel_rfl) ?_
  have Gw : Gr (fun _ => False) w1 w1.drew := Gr.drew _ _
  have TS : SL tb tk tt tn (.slice a1 n1 c1) (.slice a2 n2 c2) w1.drew := sl_gr T1 Gw
  generalize w1.drew = w at Gw TS ⊢
  refine wpAnyL_at (i := 0) (v := trv tk tt tn (.slice a1 n1 c1) (.slice a2 n2 c2)) (some 5) rfl rfl (by kernel_rfl) (by kernel_rfl) (by kernel_rfl) (by kernel_rfl) (by decide) (fun _ _ _ h => h) (Or.inl ⟨by rfl, ?_⟩) TS ?_
  · intro w hSw
    obtain ⟨hs1, hs2, hs3, hs4, hs5⟩ := hSw
    go_simp
  try simp only [Act.put, List.setIfInBounds_toArray, List.set_cons_zero, List.set_cons_succ]
  refine wpAnyL_one (i := 1) (by kernel_rfl) rfl (fun K hK => ?_)
  go_simp
  refine (hlg.out w Gw).mono ?_
  rintro e w2 ⟨r, rfl, gw2⟩
  have Gw2 := Gw.trans gw2
  have TS : SL tb tk tt tn (.slice a1 n1 c1) (.slice a2 n2 c2) w2 := sl_gr TS gw2
  cases r with
  | true =>
    refine hK.out _ _ (fun _ => TS) ?_
    clear hK K
    try simp only [Act.put, List.setIfInBounds_toArray, List.set_cons_zero, List.set_cons_succ]
    refine wpAnyL_one (i := 2) (by kernel_rfl) rfl (fun K hK => ?_)
    go_simp
    refine hK.out _ _ (fun _ => TS) ?_
    clear hK K
    try simp only [Act.put, List.setIfInBounds_toArray, List.set_cons_zero, List.set_cons_succ]
    refine wpAnyL_at (i := 3) (v := undef) (some 8) rfl rfl (by kernel_rfl) (by kernel_rfl) (by kernel_rfl) (by kernel_rfl) (by decide) (fun _ _ _ h => h) (Or.inr ⟨by rfl, rfl⟩) TS ?_
    try simp only [Act.put, List.setIfInBounds_toArray, List.set_cons_zero, List.set_cons_succ]
    refine wpAnyL_at (i := 5) (v := undef) (some 10) rfl rfl (by kernel_rfl) (by kernel_rfl) (by kernel_rfl) (by kernel_rfl) (by decide) (fun _ _ _ h => h) (Or.inr ⟨by rfl, rfl⟩) TS ?_
    try simp only [Act.put, List.setIfInBounds_toArray, List.set_cons_zero, List.set_cons_succ]
    refine wpAnyL_at (i := 4) (v := undef) (some 9) rfl rfl (by kernel_rfl) (by kernel_rfl) (by kernel_rfl) (by kernel_rfl) (by decide) (fun _ _ _ h => h) (Or.inr ⟨by rfl, rfl⟩) TS ?_
    try simp only [Act.put, List.setIfInBounds_toArray, List.set_cons_zero, List.set_cons_succ]
    refine wpAnyL_at (i := 6) (v := undef) (some 11) rfl rfl (by kernel_rfl) (by kernel_rfl) (by kernel_rfl) (by kernel_rfl) (by decide) (fun _ _ _ h => h) (Or.inr ⟨by rfl, rfl⟩) TS ?_
    try simp only [Act.put, List.setIfInBounds_toArray, List.set_cons_zero, List.set_cons_succ]
    refine wpAnyL_at (i := 7) (v := undef) (some 12) rfl rfl (by kernel_rfl) (by kernel_rfl) (by kernel_rfl) (by kernel_rfl) (by decide) (fun _ _ _ h => h) (Or.inr ⟨by rfl, rfl⟩) TS ?_
    try simp only [Act.put, List.setIfInBounds_toArray, List.set_cons_zero, List.set_cons_succ]
    refine wpAnyL_one (i := 8) (by kernel_rfl) rfl (fun K hK => ?_)
    go_simp
    refine hK.out _ _ (fun _ => TS) ?_
    clear hK K
    try simp only [Act.put, List.setIfInBounds_toArray, List.set_cons_zero, List.set_cons_succ]
    refine wpAnyL_one (i := 9) (by kernel_rfl) rfl (fun K hK => ?_)
    go_simp
    refine hK.out _ _ (fun h => absurd rfl h) ?_
    clear hK K
    try simp only [Act.put, List.setIfInBounds_toArray, List.set_cons_zero, List.set_cons_succ]
    refine wpAnyL_done (by kernel_rfl) ?_ _
    refine NoPanic.normal ?_
    go_wp2_with fail
    go_ret
    exact ⟨rfl, hG0.out _ Gw2⟩
  | false =>
    refine hK.out _ _ (fun _ => TS) ?_
    clear hK K
    try simp only [Act.put, List.setIfInBounds_toArray, List.set_cons_zero, List.set_cons_succ]
    refine wpAnyL_one (i := 2) (by kernel_rfl) rfl (fun K hK => ?_)
    go_simp
    refine hK.out _ _ (fun _ => TS) ?_
    clear hK K
    try simp only [Act.put, List.setIfInBounds_toArray, List.set_cons_zero, List.set_cons_succ]
    refine wpAnyL_at (i := 3) (v := trv tk tt tn (.slice a1 n1 c1) (.slice a2 n2 c2)) (some 8) rfl rfl (by kernel_rfl) (by kernel_rfl) (by kernel_rfl) (by kernel_rfl) (by decide) (fun _ _ _ h => h) (Or.inl ⟨by rfl, ?_⟩) TS ?_
    · intro w hSw
      obtain ⟨hs1, hs2, hs3, hs4, hs5⟩ := hSw
      go_simp
    try simp only [Act.put, List.setIfInBounds_toArray, List.set_cons_zero, List.set_cons_succ]
    refine wpAnyL_at (i := 5) (v := trv tk tt tn (.slice a1 n1 c1) (.slice a2 n2 c2)) (some 10) rfl rfl (by kernel_rfl) (by kernel_rfl) (by kernel_rfl) (by kernel_rfl) (by decide) (fun _ _ _ h => h) (Or.inl ⟨by rfl, ?_⟩) TS ?_
    · intro w hSw
      obtain ⟨hs1, hs2, hs3, hs4, hs5⟩ := hSw
      go_simp
    try simp only [Act.put, List.setIfInBounds_toArray, List.set_cons_zero, List.set_cons_succ]
    refine wpAnyL_one (i := 4) (by kernel_rfl) rfl (fun K hK => ?_)
    go_simp
    refine (hnm.out w2 Gw2).mono ?_
    rintro e w3 ⟨x, rfl, Nx, gw3⟩
    have Gw3 := Gw2.trans gw3
    have TS : SL tb tk tt tn (.slice a1 n1 c1) (.slice a2 n2 c2) w3 := sl_gr TS gw3
    obtain ⟨xa, xc, rfl⟩ := Nx.sv
    refine hK.out _ _ (fun _ => TS) ?_
    clear hK K
    try simp only [Act.put, List.setIfInBounds_toArray, List.set_cons_zero, List.set_cons_succ]
    refine wpAnyL_one (i := 6) (by kernel_rfl) rfl (fun K hK => ?_)
    go_simp
    refine (hrf.out w3 Gw3).mono ?_
    rintro e w4 ⟨y, rfl, Ny, gw4⟩
    have Gw4 := Gw3.trans gw4
    have TS : SL tb tk tt tn (.slice a1 n1 c1) (.slice a2 n2 c2) w4 := sl_gr TS gw4
    obtain ⟨ya, yc, rfl⟩ := Ny.sv
    refine hK.out _ _ (fun _ => TS) ?_
    clear hK K
    try simp only [Act.put, List.setIfInBounds_toArray, List.set_cons_zero, List.set_cons_succ]
    have Nx := Nx.g0 gw4
    refine wpAnyL_one (i := 7) (by kernel_rfl) rfl (fun K hK => ?_)
    go_simp
    refine (texts_c w4 _ _ _ _ _ Nx Ny).mono ?_
    rintro e wt ⟨rfl, gwt⟩
    have Gwt := Gw4.trans gwt
    have TS : SL tb tk tt tn (.slice a1 n1 c1) (.slice a2 n2 c2) wt := sl_gr TS gwt
    refine hK.out _ _ (fun _ => TS) ?_
    clear hK K
    try simp only [Act.put, List.setIfInBounds_toArray, List.set_cons_zero, List.set_cons_succ]
    refine wpAnyL_one (i := 8) (by kernel_rfl) rfl (fun K hK => ?_)
    go_simp
    refine hK.out _ _ (fun _ => TS) ?_
    clear hK K
    try simp only [Act.put, List.setIfInBounds_toArray, List.set_cons_zero, List.set_cons_succ]
    refine wpAnyL_one (i := 9) (by kernel_rfl) rfl (fun K hK => ?_)
    go_simp
    refine hK.out _ _ (fun h => absurd rfl h) ?_
    clear hK K
    try simp only [Act.put, List.setIfInBounds_toArray, List.set_cons_zero, List.set_cons_succ]
    refine wpAnyL_done (by kernel_rfl) ?_ _
    refine NoPanic.normal ?_
    go_wp2_with fail
    go_ret
    exact ⟨rfl, (hG0.out _ Gwt)⟩

/-! ### A tree that came in -/
end Go.Proofs.YtbmbgnmkakkpfaaDoor
