/-
  Carried over from another seat of ours (JP).
-/
import Derived.Test.YtjedbfbolifjjaaGreatDoorJA
set_option linter.unusedVariables false
set_option linter.unusedSimpArgs false
namespace Go.Proofs.YtjedbfbolifjjaaGreatDoor
open Go.RowKit Go.Maps
variable {W W' : World}
/-- What All answers of a tree. -/
def AllOkG (T : Tr) : Prop := ∀ (W : World) (N : Nat) (v : Value) (m : Nat), RepG (fun k => k < N) W T v → N ≤ W.heap.size → 1 ≤ m → m ≤ 30000 →
 Calls Tryz.prog 14 #[v, .int .i64 (m : Int)] W fun e w' => ∃ v' us, e = .returned v' ∧ w'.ownsRow W.heap.size 25 5 v' ((preL [T]).take m).length (us.flatMap cellsOf) ∧ RepsG (fun k => k < N) w' ((preL [T]).take m) us ∧ Gr (fun _ => False) W w'
set_option maxRecDepth 100000 in
set_option maxHeartbeats 1600000 in
theorem allg_node (k : Int) (s : ByteArray) (n : Int) (b : List Int) (l : List Tr) (ih : ∀ T ∈ l, AllOkG T) : AllOkG (.mk k s n b l) := by
 intro W N v m hRep hN hm1 hm2
 obtain ⟨ba, bc, la, lc, rfl, hk⟩ := hRep.parts
 obtain ⟨i0, hi0, hzz, hz1, hz2⟩ := info_parts info25
 have hmI : (m : Int) ≤ 30000 := by omega
 have hmP : ¬ (m : Int) ≤ 0 := by omega
 have hmD : decide ((m : Int) ≤ 0) = false := by simp; omega
 have e0' : (preL [Tr.mk k s n b l]).take m = toldI (.mk k s n b l) l m l.length := by
  unfold toldI
  rw [preL_cons, List.take_length, preL_nil, List.append_nil]
 rw [e0']
 have hR0 : RepsG (fun z => z < N) W (toldI (.mk k s n b l) l m 0) [trv k s n (.slice ba b.length bc) (.slice la l.length lc)] := by
  have : toldI (.mk k s n b l) l m 0 = [.mk k s n b l] := by
   unfold toldI
   rw [List.take_zero, preL_nil]
   exact List.take_of_length_le (by simpa using hm1)
  rw [this]
  exact ⟨_, [], rfl, hRep, rfl⟩
 have hlen0 : Hid ((toldI (.mk k s n b l) l m 0).length = 1) := by
  show _ = 1
  unfold toldI
  rw [List.take_zero, preL_nil, List.length_take]
  simp; omega
 have hlm := toldI_le (.mk k s n b l) l m
 have hge : ∀ i : Nat, i ≤ l.length → (toldI (.mk k s n b l) l m i).length < m → i + 1 ≤ (toldI (.mk k s n b l) l m i).length := fun i h1 h2 => toldI_ge h1 h2
 have hst : ∀ (i : Nat) (U : Tr), l[i]? = some U → (toldI (.mk k s n b l) l m i).length < m → toldI (.mk k s n b l) l m (i + 1) = toldI (.mk k s n b l) l m i ++ (preL [U]).take (m - (toldI (.mk k s n b l) l m i).length) := fun i U h1 h2 => toldI_step h1 h2
 have hen : ∀ i : Nat, (l.length ≤ i ∨ m ≤ (toldI (.mk k s n b l) l m i).length) → toldI (.mk k s n b l) l m i = (Tr.mk k s n b l :: preL l).take m := fun i h => toldI_end h
 generalize toldI (.mk k s n b l) l m = tI at *
 have gB := Gr.alloc W (.cells #[.int .i64 k, .string s, .int .i64 n, .slice ba b.length bc, .slice la l.length lc] 25) (fun _ => False)
 have hB := heap_alloc_new W (.cells #[.int .i64 k, .string s, .int .i64 n, .slice ba b.length bc, .slice la l.length lc] 25)
 have hzB : (W.alloc (.cells #[.int .i64 k, .string s, .int .i64 n, .slice ba b.length bc, .slice la l.length lc] 25)).heap.size = W.heap.size + 1 := by simp
 have hrow1 := fun W1 (hb : W.heap.size + 1 ≤ W1.heap.size) => World.ownsRow_lit (base := W.heap.size + 1) (e := 25) (size := 5) W1 #[.int .i64 k, .string s, .int .i64 n, .slice ba b.length bc, .slice la l.length lc] 1 hb (by unfold maxLen; omega) rfl
 go_enter Tryz.func14, Tryz.ntmps14
 go_wp2_with fail
 generalize W.alloc _ = WB at gB hB hzB ⊢
 have hr1 := hrow1 WB (by omega)
 have gR := Gr.alloc WB (.cells #[.int .i64 k, .string s, .int .i64 n, .slice ba b.length bc, .slice la l.length lc] 25) (fun _ => False)
 rw [hzB] at hr1
 generalize WB.alloc _ = WR at hr1 gR ⊢
 have hB1 := gR.keep hB (fun e => e)
 obtain ⟨tb, htb⟩ : ∃ tb, W.heap.size = tb := ⟨_, rfl⟩
 rw [htb] at hB1 hr1 ⊢
 have gW := gB.trans gR
 have hRR : RepsG (fun z => z < N) WR (tI 0) _ := hR0.turn (fun z hz hl => ⟨hz, gW.block z hl (fun e => e)⟩)
 have hk' : ∀ (i : Nat) (T : Tr), l[i]? = some T → ∃ g o v', la = some ⟨g, o, none⟩ ∧ g < W.heap.size ∧ g < N ∧ RepG (fun z => z < N) W T v' ∧ ∀ j u, (cellsOf v')[j]? = some u → W.cell? ⟨g, o + i * 5 + j, none⟩ = some u := hk
 replace hk' := Lib.hid hk'
 replace ih := Lib.hid ih
 replace hlm := Lib.hid hlm
 replace hge := Lib.hid hge
 replace hst := Lib.hid hst
 replace hen := Lib.hid hen
 replace hm1 := Lib.hid hm1
 replace hm2 := Lib.hid hm2
 clear hk hR0 hrow1 gB gR hB hzB e0'
 go_loopw [5, 6] (fun u5 u6 wr => ∃ (i : Nat) (us : List Value), i ≤ l.length ∧ u6 = .int .i64 (i : Int) ∧ wr.ownsRow (tb + 1) 25 5 u5 (tI i).length (us.flatMap cellsOf) ∧ Hid (RepsG (fun z => z < N) wr (tI i) us) ∧ wr.heap[tb]? = some (.cells #[.int .i64 k, .string s, .int .i64 n, .slice ba b.length bc, .slice la l.length lc] 25 (0, 0)) ∧ Gr (fun _ => False) W wr) (fun _ u6 _ => l.length - (intOf u6).toNat)
 case atStart => exact ⟨0, _, Nat.zero_le _, rfl, by rw [hlen0.out]; exact hr1, hRR, hB1, gW⟩
 case round =>
  obtain ⟨i, us, hi, rfl, hrow, hReps, hBr, hG⟩ := hrel
  obtain ⟨⟨m0, m1', m2, m3, m4⟩, _⟩ := five_cells hBr
  obtain ⟨oa, oc, rfl⟩ := ownsRow_sv hrow
  have htw : tb < wr.heap.size := (Array.getElem?_eq_some_iff.1 hBr).1
  by_cases hlt : i < l.length
  ·
   have h1 : (i : Int) < (l.length : Int) := by omega
   by_cases hol : (tI i).length < m
   ·
    have h2 : ((tI i).length : Int) < (m : Int) := by omega
    have hiI : (i : Int) ≤ 30000 := by have := hge.out i hi hol; omega
    have hTi : l[i]? = some l[i] := List.getElem?_eq_getElem hlt
    obtain ⟨g, o, v', rfl, hgl, hgN, hRi, hci⟩ := hk'.out i _ hTi
    have hAi := ih.out l[i] (List.getElem_mem hlt)
    have Hst := Lib.hid (hst.out i _ hTi hol)
    generalize l[i] = U at hRi hAi Hst
    obtain ⟨tk, tt, tn, a1, n1, c1, a2, n2, c2, rfl⟩ := hRi.agg
    have k0 : wr.cell? ⟨g, o + i * 5, none⟩ = some (.int .i64 tk) := cell_gr (hci 0 _ rfl) hG (fun e => e)
    have k1 := cell_gr (hci 1 _ rfl) hG (fun e => e)
    have k2 := cell_gr (hci 2 _ rfl) hG (fun e => e)
    have k3 := cell_gr (hci 3 _ rfl) hG (fun e => e)
    have k4 := cell_gr (hci 4 _ rfl) hG (fun e => e)
    have hRi' : RepG (fun z => z < N) wr U (trv tk tt tn (.slice a1 n1 c1) (.slice a2 n2 c2)) := hRi.turn (fun z hz hl => ⟨hz, hG.block z hl (fun e => e)⟩)
    have hsG := hG.size
    have hcall := hAi wr N _ (m - (tI i).length) hRi' (by omega) (by omega) (by have := hm2.out; omega)
    have hsub : ((m - (tI i).length : Nat) : Int) = (m : Int) - ((tI i).length : Int) := by omega
    rw [hsub] at hcall
    have hpos : Hid (0 < ((preL [U]).take (m - (tI i).length)).length) := by
     show 0 < _
     have := preL_pos U
     rw [List.length_take]; omega
    have hble : Hid (((preL [U]).take (m - (tI i).length)).length + (tI i).length ≤ 30000) := by
     show _ ≤ _
     have := hm2.out
     rw [List.length_take]; omega
    generalize (preL [U]).take (m - (tI i).length) = Y at hcall Hst hpos hble
    replace hcall := Lib.hid hcall
    have hgw : g < wr.heap.size := by omega
    have hTt : Hid (∀ z, z < N → z < tb + 1) := fun z hz => by omega
    clear hAi hRi hci hTi hsub
    go_wp2_with fail
    refine hcall.out.mono ?_
    rintro e w4 ⟨vY, ys, rfl, rowY, repY, g4⟩
    obtain ⟨gY, cY, rfl, hcY⟩ := row_cells rowY hpos.out
    have hrow4 := ownsRow_gr hrow g4 (fun _ _ e => e)
    have hcl := repY.cells
    have hone := repY.one
    have hs4 := g4.size
    have hB4 := g4.keep hBr (fun e => e)
    go_wp2_with (first
     | (at_builtin; refine wpList_own2 _ rfl 23 _ _ rfl (tb + 1) 25 i0 (trv 0 e0 0 nl nl) 5 80 Tryz.underlying23 hi0 hzz hz1 hz2 rfl (by decide) (.slice oa (tI i).length oc) (tI i).length (us.flatMap cellsOf) ⟨gY, 0, none⟩ Y.length cY (ys.flatMap cellsOf) rfl rfl hrow4 hcl hcY hone (by unfold maxLen; have := hble.out; omega) (by have := hble.out; omega) (by omega) ?_; intro v5 w5 hrow5 hgr5 hloc5; obtain ⟨a5, cap5, rfl⟩ := ownsRow_sv hrow5))
    have G5 : Gr (fun z => tb + 1 ≤ z) w4 w5 := Gr.of_grown hgr5 (fun z e => (ownsRow_lt hrow4 z e).1)
    have GW : Gr (fun _ => False) W w5 := (hG.trans g4).trans' G5 (fun k hk e => by omega)
    have hB5 := G5.keep hB4 (by omega)
    have R1 : RepsG (fun z => z < N) w5 (tI i) us := hReps.out.turn (fun z hz hl => ⟨hz, (G5.block z (by omega) (by omega)).trans (g4.block z hl (fun e => e))⟩)
    have R2 : RepsG (fun z => z < N) w5 Y ys := repY.turn (fun z hz hl => ⟨hz, G5.block z hl (by omega)⟩)
    have R5 : Hid (RepsG (fun z => z < N) w5 (tI (i + 1)) (us ++ ys)) := by show RepsG _ _ _ _; rw [Hst.out]; exact R2.app R1
    have hrow6 : w5.ownsRow (tb + 1) 25 5 (.slice a5 ((tI i).length + Y.length) cap5) (tI (i + 1)).length ((us ++ ys).flatMap cellsOf) := by
     rw [Hst.out, List.flatMap_append, List.length_append]; exact hrow5
    clear hrow5 hgr5 hloc5 hcl hone hcY rowY repY hrow4 R1 R2 hB4 k0 k1 k2 k3 k4 m0 m1' m2 m3 m4 hcall
    go_wp2_with fail
    exact ⟨⟨i + 1, us ++ ys, hlt, by go_num, hrow6, R5, hB5, GW⟩, by simp [intOf]; omega⟩
   · have h2 : decide (((tI i).length : Int) < (m : Int)) = false := by simp; omega
     have e : Hid (tI i = tI l.length) := (hen.out i (.inr (by omega))).trans (hen.out l.length (.inl (Nat.le_refl _))).symm
     go_wp2_with fail
     go_ret
     refine ⟨_, us, rfl, ?_, ?_, hG⟩
     · rw [← e.out]; exact ownsRow_base hrow (by omega)
     · rw [← e.out]; exact hReps.out
  · have h1 : decide ((i : Int) < (l.length : Int)) = false := by simp; omega
    obtain rfl : i = l.length := by omega
    go_wp2_with fail
    go_ret
    exact ⟨_, us, rfl, ownsRow_base hrow (by omega), hReps.out, hG⟩
theorem allg_c (T : Tr) : AllOkG T :=
 Tr.rec (motive_1 := fun T => AllOkG T) (motive_2 := fun l => ∀ T ∈ l, AllOkG T)
  (fun k s n b l ih => allg_node k s n b l ih) (fun T h => by cases h)
  (fun T l h1 h2 U hU => by
    rcases List.mem_cons.1 hU with rfl | hU
    · exact h1
    · exact h2 U hU) T
end Go.Proofs.YtjedbfbolifjjaaGreatDoor
