/-
  The names of a tree: at a tree that bears one (kind 17).
-/
import Derived.Test.YtbmbgnmkakkpfaaDoorGRa
set_option linter.unusedVariables false
set_option linter.unusedSimpArgs false
namespace Go.Proofs.YtbmbgnmkakkpfaaDoor
open Go.RowKit Go.Maps
variable {W W' : World}
set_option maxRecDepth 100000 in
set_option maxHeartbeats 4000000 in
theorem walk_17 (k : Int) (s : ByteArray) (n : Int) (b : List Int) (l : List Tr) (hs : s.size ≤ 140737488351232) (ih : ∀ T ∈ l, WalkOk T) (q2 : (k == 2) = false) (q3 : (k == 3) = false) (q11 : (k == 11) = false) (q17 : (k == 17) = true) (hnm : isNm k = true) : WalkOk (.mk k s n b l) := by
  intro W N g o uL uN uW base c v ns hT hg hWk hc1
  obtain ⟨tv, hRep, hcell⟩ := hT
  obtain ⟨ba, bc, la, lc, rfl, hk⟩ := hRep.parts
  obtain ⟨oL, oN, oW, o1, o2, o3, o4, o5, o6⟩ := hWk.ord
  have hmany := hWk.many
  have hcI : (c : Int) ≤ 4000 := by omega
  have x0 : W.cell? ⟨g, o, none⟩ = _ := hcell 0 _ rfl
  have x1 := hcell 1 _ rfl
  have x4 := hcell 4 _ rfl
  obtain ⟨d0, d1, d2⟩ := one_cell hWk.left
  obtain ⟨e0', e1, e2⟩ := one_cell hWk.nam
  obtain ⟨w0, w1, w2⟩ := one_cell hWk.fn
  have hgl : g < W.heap.size := World.block_lt_of_cell? _ _ x0
  have hgL : g ≠ uL := by omega
  have hTI : (preL [Tr.mk k s n b l]).take c = toldI (.mk k s n b l) l c l.length := by
    unfold toldI
    rw [preL_cons, List.take_length, preL_nil, List.append_nil]
  have hT0 : toldI (.mk k s n b l) l c 0 = [.mk k s n b l] := by
    unfold toldI
    rw [List.take_zero, preL_nil]
    exact List.take_of_length_le (by simpa using hc1)
  have hst : ∀ (i : Nat) (U : Tr), l[i]? = some U → (toldI (.mk k s n b l) l c i).length < c → toldI (.mk k s n b l) l c (i + 1) = toldI (.mk k s n b l) l c i ++ (preL [U]).take (c - (toldI (.mk k s n b l) l c i).length) := fun i U h1 h2 => toldI_step h1 h2
  have hen : ∀ i : Nat, (l.length ≤ i ∨ c ≤ (toldI (.mk k s n b l) l c i).length) → toldI (.mk k s n b l) l c i = (Tr.mk k s n b l :: preL l).take c := fun i h => toldI_end h
  have hge : ∀ i : Nat, i ≤ l.length → (toldI (.mk k s n b l) l c i).length < c → i + 1 ≤ (toldI (.mk k s n b l) l c i).length := fun i h1 h2 => toldI_ge h1 h2
  have hle := toldI_le (.mk k s n b l) l c
  rw [hTI]
  have hNm : nms (toldI (.mk k s n b l) l c 0) = nmOf (.mk k s n b l) := by rw [hT0]; simp [nms]
  have hL0 : (toldI (.mk k s n b l) l c 0).length = 1 := by rw [hT0]; rfl
  generalize toldI (.mk k s n b l) l c = tI at hst hen hge hle hNm hL0 ⊢
  replace hk := Lib.hid hk
  replace ih := Lib.hid ih
  replace hst := Lib.hid hst
  replace hen := Lib.hid hen
  replace hge := Lib.hid hge
  replace hle := Lib.hid hle
  replace hNm := Lib.hid hNm
  replace hL0 := Lib.hid hL0
  replace hmany := Lib.hid hmany
  replace hc1 := Lib.hid hc1
  clear hTI hT0
  have hgN : g ≠ uN := by omega
  have hc1' := hc1.out
  have hcl := fun w => clone_g s w hs
  go_enter Tryd.func18, Tryd.ntmps18
  go_wp2_with fail
  obtain ⟨w1', hw1⟩ : ∃ w1, w1 = W.setCell ⟨uL, 0, none⟩ (.int .i64 ((c : Int) - 1)) := ⟨_, rfl⟩
  rw [← hw1]
  have gx : Gr (fun k => k = uL) W w1' := by rw [hw1]; exact Gr.set _ _ _ rfl
  have y1 := cell_gr x1 gx hgL
  have y2 := cell_gr e0' gx (by omega)
  have y4 := cell_gr x4 gx hgL
  have hNs1 := hWk.row.gr gx (fun k hk e => by omega)
  have HW1 := Lib.hid hw1
  have hNx := gx.keep hWk.nam (by omega)
  have hlen : Hid (ns.length < 40000) := by have := hmany.out; show _ < _; omega
  have hgw : g < w1'.heap.size := World.block_lt_of_cell? _ _ y1
  have hnw : uN < w1'.heap.size := World.block_lt_of_cell? _ _ y2
  obtain ⟨va, vc, rfl⟩ := hWk.row.sv
  clear hw1 d0 d1 d2 e0' e1 e2 w0 w1 w2 x0 x1
  have hNsD := hNs1.g0 (Gr.drew w1' (fun _ => False))
  have T1 : SN uN g o (.slice va ns.length vc) s w1'.drew := ⟨y2, y1⟩
  have hy1d : w1'.drew.cell? ⟨g, o + 1, none⟩ = some (.string s) := y1
  refine wp_region_L (L := 8) (T := SN uN g o (.slice va ns.length vc) s) (by kernel_rfl) ?_
  refine wpAnyL_at (i := 0) (v := .slice va ns.length vc) (some 17) rfl rfl (by kernel_rfl) (by kernel_rfl) (by kernel_rfl) (by kernel_rfl) (by decide) (fun _ _ _ h => h) (Or.inl ⟨by rfl, ?_⟩) T1 ?_
  · intro w hSw
    obtain ⟨hs1, hs2⟩ := hSw
    go_simp
  try simp only [Act.put, List.setIfInBounds_toArray, List.set_cons_zero, List.set_cons_succ]
  refine wpAnyL_at (i := 1) (v := ptr g o) (some 18) rfl rfl (by kernel_rfl) (by kernel_rfl) (by kernel_rfl) (by kernel_rfl) (by decide) (fun _ _ _ h => h) (Or.inl ⟨by rfl, ?_⟩) T1 ?_
  · intro w hSw
    obtain ⟨hs1, hs2⟩ := hSw
    go_simp
  try simp only [Act.put, List.setIfInBounds_toArray, List.set_cons_zero, List.set_cons_succ]
  refine wpAnyL_at (i := 2) (v := ptr g o) (some 19) rfl rfl (by kernel_rfl) (by kernel_rfl) (by kernel_rfl) (by kernel_rfl) (by decide) (fun _ _ _ h => h) (Or.inl ⟨by rfl, ?_⟩) T1 ?_
  · intro w hSw
    obtain ⟨hs1, hs2⟩ := hSw
    go_simp
  try simp only [Act.put, List.setIfInBounds_toArray, List.set_cons_zero, List.set_cons_succ]
  refine wpAnyL_at (i := 3) (v := ptr g (o + 1)) (some 20) rfl rfl (by kernel_rfl) (by kernel_rfl) (by kernel_rfl) (by kernel_rfl) (by decide) (fun _ _ _ h => h) (Or.inl ⟨by rfl, ?_⟩) T1 ?_
  · intro w hSw
    obtain ⟨hs1, hs2⟩ := hSw
    go_simp
  try simp only [Act.put, List.setIfInBounds_toArray, List.set_cons_zero, List.set_cons_succ]
  refine wpAnyL_at (i := 4) (v := .string s) (some 21) rfl rfl (by kernel_rfl) (by kernel_rfl) (by kernel_rfl) (by kernel_rfl) (by decide) (fun _ _ _ h => h) (Or.inl ⟨by rfl, ?_⟩) T1 ?_
  · intro w hSw
    obtain ⟨hs1, hs2⟩ := hSw
    go_simp
  try simp only [Act.put, List.setIfInBounds_toArray, List.set_cons_zero, List.set_cons_succ]
  refine wpAnyL_one (i := 5) (by kernel_rfl) rfl (fun K hK => ?_)
  go_simp
  refine (hcl _).mono ?_
  rintro e w2 ⟨rfl, g2⟩
  have g2' := (Gr.drew w1' (fun _ => False)).trans g2
  have T2 : SN uN g o (.slice va ns.length vc) s w2 := ⟨cell_gr y2 g2' (fun e => e), cell_gr y1 g2' (fun e => e)⟩
  refine hK.out _ _ (fun _ => T2) ?_
  clear hK K
  try simp only [Act.put, List.setIfInBounds_toArray, List.set_cons_zero, List.set_cons_succ]
  refine wpAnyL_one (i := 6) (by kernel_rfl) rfl (fun K hK => ?_)
  go_simp
  have gA := Gr.alloc w2 (.cells #[.string s] 9) (fun _ => False)
  have g3' := g2'.trans gA
  have T3 : SN uN g o (.slice va ns.length vc) s (w2.alloc (.cells #[.string s] 9)) := ⟨cell_gr y2 g3' (fun e => e), cell_gr y1 g3' (fun e => e)⟩
  have N3 := hNs1.g0 g3'
  have z3 := new_cell w2 s
  refine hK.out _ _ (fun _ => T3) ?_
  clear hK K
  try simp only [Act.put, List.setIfInBounds_toArray, List.set_cons_zero, List.set_cons_succ]
  refine wpAnyL_one (i := 7) (by kernel_rfl) rfl (fun K hK => ?_)
  refine step_ns rfl _ _ rfl base (.slice va ns.length vc) ns w2.heap.size s rfl rfl N3 z3 hlen.out ?_
  intro v5 w5 hN5 g5
  have T5 : SN uN g o (.slice va ns.length vc) s w5 := ⟨cell_gr T3.1 g5 (by omega), cell_gr T3.2 g5 (by omega)⟩
  obtain ⟨u5, uf5, ul5⟩ := one_cell (g5.keep (g3'.keep hNx (fun e => e)) (by omega))
  obtain ⟨H0, GZ⟩ := nm_step hWk hc1' HW1.out g3' hN5 g5
  obtain ⟨a5, c5, rfl⟩ := hN5.sv
  refine hK.out _ _ (fun _ => T5) ?_
  clear hK K
  try simp only [Act.put, List.setIfInBounds_toArray, List.set_cons_zero, List.set_cons_succ]
  refine wpAnyL_one (i := 8) (by kernel_rfl) rfl (fun K hK => ?_)
  go_simp
  refine hK.out _ _ (fun h => absurd rfl h) ?_
  clear hK K
  try simp only [Act.put, List.setIfInBounds_toArray, List.set_cons_zero, List.set_cons_succ]
  refine wpAnyL_done (by kernel_rfl) ?_ _
  refine NoPanic.normal ?_
  have hnm0 : nmOf (.mk k s n b l) = [s] := by rw [nmOf, if_pos hnm]
  have hlen5 : (ns ++ [s]).length = ns.length + 1 := by simp
  rw [hlen5] at H0 GZ
  generalize w5.setCell ⟨uN, 0, none⟩ (.slice a5 (ns.length + 1) c5) = Wx at H0 GZ ⊢
  have y4' := cell_gr x4 GZ (by rintro (e | e | e) <;> omega)
  have hgz : g < Wx.heap.size := World.block_lt_of_cell? _ _ y4'
  have hW0 : Wk N uL uN uW base Wx (c - 1) (.slice a5 (ns.length + 1) c5) (ns ++ nmOf (.mk k s n b l)) := by rw [hnm0]; exact H0
  have G0 := GZ
  clear H0 GZ hnm0 hlen5 T1 T2 T3 T5 hN5 N3 hNs1 hNsD y1 y2 y4 u5 uf5 ul5 gx hy1d hNx
  go_wp2_with fail
  clear y4' hgz
  go_loopw [30] (fun u30 wr => ∃ (i : Nat) (v' : Value), i ≤ l.length ∧ u30 = .int .i64 (i : Int) ∧ Wk N uL uN uW base wr (c - (tI i).length) v' (ns ++ nms (tI i)) ∧ Gr (SW uL uN base) W wr) (fun u30 _ => l.length - (intOf u30).toNat)
  case atStart => exact ⟨0, _, Nat.zero_le _, rfl, by rw [hL0.out, hNm.out]; exact hW0, G0⟩
  case round =>
    obtain ⟨i, v', hi, rfl, hP, hG⟩ := hrel
    obtain ⟨d0, d1, d2⟩ := one_cell hP.left
    obtain ⟨w0, w1, w2⟩ := one_cell hP.fn
    have x4' := cell_gr x4 hG (by rintro (e | e | e) <;> omega)
    by_cases hlt : i < l.length
    · have h1 : (i : Int) < (l.length : Int) := by omega
      by_cases hz : c - (tI i).length = 0
      · have h2 : (((c - (tI i).length : Nat) : Int) == 0) = true := by rw [hz]; rfl
        have e : Hid (tI i = tI l.length) := (hen.out i (.inr (by omega))).trans (hen.out l.length (.inl (Nat.le_refl _))).symm
        replace hz := Lib.hid hz
        go_wp2_with fail
        refine ⟨rfl, .tuple #[], by simp [results, Tryd.results18, go_sem], rfl, v', ?_, hG⟩
        rw [← e.out]; exact hP
      · have h2 : (((c - (tI i).length : Nat) : Int) == 0) = false := by simp; omega
        have hol : (tI i).length < c := by omega
        have hiI : (i : Int) ≤ 4000 := by have := hge.out i hi hol; omega
        have hTi : l[i]? = some l[i] := List.getElem?_eq_getElem hlt
        obtain ⟨g', tv', rfl, hgl', hgN', hRi, hci⟩ := hk.out i _ hTi
        have hAi := ih.out l[i] (List.getElem_mem hlt)
        have Hst := Lib.hid (hst.out i _ hTi hol)
        generalize l[i] = U at hRi hAi Hst
        have hTA : TAt N wr g' (i * 5) U := TAt.gr ⟨tv', hRi, hci⟩ hG (fun k hk => by rintro (e | e | e) <;> omega) hgN'
        have hgD := Gr.drew wr (fun _ => False)
        have hPD : Wk N uL uN uW base wr.drew (c - (tI i).length) v' (ns ++ nms (tI i)) := ⟨hP.left, hP.nam, hP.fn, hP.row.g0 hgD, hP.ord, hP.many⟩
        have hcall := hAi wr.drew N g' (i * 5) uL uN uW base _ v' _ (hTA.gr hgD (fun _ _ e => e) hgN') hgN' hPD (by omega)
        have Hle := Lib.hid (hle.out i)
        have s1 : SR uL uN uW g o (some ⟨g', 0, none⟩) l.length lc wr.drew := ⟨w0, x4'⟩
        obtain ⟨z0, z1⟩ := s1
        have s1 : SR uL uN uW g o (some ⟨g', 0, none⟩) l.length lc wr.drew := ⟨z0, z1⟩
        have hgw : g < wr.heap.size := World.block_lt_of_cell? _ _ x4'
        have hgw' : g' < wr.heap.size := by have := hG.size; omega
        replace hcall := Lib.hid hcall
        replace hz := Lib.hid hz
        replace hol := Lib.hid hol
        clear hRi hci hAi hTA hTi
        go_wp2_with fail
        go_region_held3 (SR uL uN uW g o (some ⟨g', 0, none⟩) l.length lc) (with_reducible assumption)
          (first
            | (go_at_call 18; refine hcall.out.mono ?_; rintro e w8 ⟨rfl, v8, hP8, g8⟩; have s2 : SR uL uN uW g o (some ⟨g', 0, none⟩) l.length lc w8 := ⟨cell_gr s1.1 g8 (by rintro (e | e | e) <;> omega), cell_gr s1.2 g8 (by rintro (e | e | e) <;> omega)⟩)
            | fail)
        all_goals
          have hlen : (tI (i + 1)).length = (tI i).length + ((preL [U]).take (c - (tI i).length)).length := by rw [Hst.out, List.length_append]
          have hP9 : Wk N uL uN uW base w8 (c - (tI (i + 1)).length) v8 (ns ++ nms (tI (i + 1))) := by
            rw [hlen, Hst.out, nms_app, ← List.append_assoc, ← Nat.sub_sub]; exact hP8
          have G9 : Gr (SW uL uN base) W w8 := (hG.trans (Gr.drew _ _)).trans g8
          clear hP8 hlen
          go_wp2_with fail
          exact ⟨⟨i + 1, v8, hlt, by go_num, hP9, G9⟩, by simp [intOf]; omega⟩
    · have h1 : decide ((i : Int) < (l.length : Int)) = false := by simp; omega
      obtain rfl : i = l.length := by omega
      go_wp2_with fail
      exact ⟨rfl, .tuple #[], by simp [results, Tryd.results18, go_sem], rfl, v', hP, hG⟩
end Go.Proofs.YtbmbgnmkakkpfaaDoor
