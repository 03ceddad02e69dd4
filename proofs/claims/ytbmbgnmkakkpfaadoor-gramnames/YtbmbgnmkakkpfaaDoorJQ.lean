/-
  The closure of Names, of any tree: kinds without a name.
-/
import Derived.Test.YtbmbgnmkakkpfaaDoorJA
import Derived.Test.YtbmbgnmkakkpfaaDoorGQ
import Derived.Deep.RegionHeld3
set_option linter.unusedVariables false
set_option linter.unusedSimpArgs false
namespace Go.Proofs.YtbmbgnmkakkpfaaDoor
open Go.RowKit Go.Maps
variable {W W' : World}
/-- A tree in its five cells. -/
def TAtG (N : Nat) (W : World) (g o : Nat) (T : Tr) : Prop := ∃ v, RepG (fun z => z < N) W T v ∧ ∀ j u, (cellsOf v)[j]? = some u → W.cell? ⟨g, o + j, none⟩ = some u
theorem TAtG.gr {N g o : Nat} {T : Tr} {S : Nat → Prop} (h : TAtG N W g o T) (gr : Gr S W W') (hs : ∀ k, k < N → ¬ S k) (hg : g < N) : TAtG N W' g o T := by
  obtain ⟨v, h1, h2⟩ := h
  exact ⟨v, h1.turn (fun z hz hl => ⟨hz, gr.block z hl (hs z hz)⟩), fun j u hj => cell_gr (h2 j u hj) gr (hs g hg)⟩
def WalkOkG (T : Tr) : Prop := ∀ (W : World) (N g o uL uN uW base c : Nat) (v : Value) (ns : List ByteArray), TAtG N W g o T → g < N → Wk N uL uN uW base W c v ns → 1 ≤ c →
  Calls Tryd.prog 18 #[ptr g o, pt uL, pt uN, pt uW] W fun e w' => e = .returned (.tuple #[]) ∧ ∃ v', Wk N uL uN uW base w' (c - ((preL [T]).take c).length) v' (ns ++ nms ((preL [T]).take c)) ∧ Gr (SW uL uN base) W w'
set_option maxRecDepth 100000 in
set_option maxHeartbeats 4000000 in
theorem walkg_no (k : Int) (s : ByteArray) (n : Int) (b : List Int) (l : List Tr) (ih : ∀ T ∈ l, WalkOkG T) (q2 : (k == 2) = false) (q3 : (k == 3) = false) (q11 : (k == 11) = false) (q17 : (k == 17) = false) : WalkOkG (.mk k s n b l) := by
  intro W N g o uL uN uW base c v ns hT hg hWk hc1
  obtain ⟨tv, hRep, hcell⟩ := hT
  obtain ⟨ba, bc, la, lc, rfl, hk⟩ := hRep.parts
  obtain ⟨oL, oN, oW, o1, o2, o3, o4, o5, o6⟩ := hWk.ord
  have hmany := hWk.many
  have hcI : (c : Int) ≤ 4000 := by omega
  have x0 : W.cell? ⟨g, o, none⟩ = _ := hcell 0 _ rfl
  have x1 := hcell 1 _ rfl
  have x4 := hcell 4 _ rfl
  obtain ⟨d0, d1, d2⟩ := one_cell hWk.left
  obtain ⟨e0', e1, e2⟩ := one_cell hWk.nam
  obtain ⟨w0, w1, w2⟩ := one_cell hWk.fn
  have hgl : g < W.heap.size := World.block_lt_of_cell? _ _ x0
  have hgL : g ≠ uL := by omega
  have hTI : (preL [Tr.mk k s n b l]).take c = toldI (.mk k s n b l) l c l.length := by
    unfold toldI
    rw [preL_cons, List.take_length, preL_nil, List.append_nil]
  have hT0 : toldI (.mk k s n b l) l c 0 = [.mk k s n b l] := by
    unfold toldI
    rw [List.take_zero, preL_nil]
    exact List.take_of_length_le (by simpa using hc1)
  have hst : ∀ (i : Nat) (U : Tr), l[i]? = some U → (toldI (.mk k s n b l) l c i).length < c → toldI (.mk k s n b l) l c (i + 1) = toldI (.mk k s n b l) l c i ++ (preL [U]).take (c - (toldI (.mk k s n b l) l c i).length) := fun i U h1 h2 => toldI_step h1 h2
  have hen : ∀ i : Nat, (l.length ≤ i ∨ c ≤ (toldI (.mk k s n b l) l c i).length) → toldI (.mk k s n b l) l c i = (Tr.mk k s n b l :: preL l).take c := fun i h => toldI_end h
  have hge : ∀ i : Nat, i ≤ l.length → (toldI (.mk k s n b l) l c i).length < c → i + 1 ≤ (toldI (.mk k s n b l) l c i).length := fun i h1 h2 => toldI_ge h1 h2
  have hle := toldI_le (.mk k s n b l) l c
  rw [hTI]
  have hNm : nms (toldI (.mk k s n b l) l c 0) = nmOf (.mk k s n b l) := by rw [hT0]; simp [nms]
  have hL0 : (toldI (.mk k s n b l) l c 0).length = 1 := by rw [hT0]; rfl
  generalize toldI (.mk k s n b l) l c = tI at hst hen hge hle hNm hL0 ⊢
  replace hk := Lib.hid hk
  replace ih := Lib.hid ih
  replace hst := Lib.hid hst
  replace hen := Lib.hid hen
  replace hge := Lib.hid hge
  replace hle := Lib.hid hle
  replace hNm := Lib.hid hNm
  replace hL0 := Lib.hid hL0
  replace hmany := Lib.hid hmany
  replace hc1 := Lib.hid hc1
  clear hTI hT0
  go_enter Tryd.func18, Tryd.ntmps18
  go_wp2_with fail
  have g1 : Gr (SW uL uN base) W (W.setCell ⟨uL, 0, none⟩ (.int .i64 ((c : Int) - 1))) := Gr.set _ _ _ (.inl rfl)
  have hL1 : (W.setCell ⟨uL, 0, none⟩ (.int .i64 ((c : Int) - 1))).heap[uL]? = some (.cells #[.int .i64 ((c : Int) - 1)] 3 (0, 0)) := heap_setCell_same W uL 0 _ 3 _ hWk.left
  have gx : Gr (fun k => k = uL) W (W.setCell ⟨uL, 0, none⟩ (.int .i64 ((c : Int) - 1))) := Gr.set _ _ _ rfl
  generalize W.setCell ⟨uL, 0, none⟩ (.int .i64 ((c : Int) - 1)) = Wx at g1 hL1 gx ⊢
  have hcs : ((c - 1 : Nat) : Int) = (c : Int) - 1 := by have := hc1.out; omega
  have hnm0 : nmOf (.mk k s n b l) = [] := by rw [nmOf, isNm, q2, q3, q11, q17]; rfl
  have hW0 : Wk N uL uN uW base Wx (c - 1) v (ns ++ nmOf (.mk k s n b l)) := by
    rw [hnm0, List.append_nil]
    exact ⟨by rw [hcs]; exact hL1, gx.keep hWk.nam (by omega), gx.keep hWk.fn (by omega), hWk.row.gr gx (fun k hk e => by omega), hWk.ord, by have := hmany.out; omega⟩
  have G0 := g1
  clear d0 d1 d2 e0' e1 e2 w0 w1 w2 x0 x1 hcs hnm0 gx hL1 g1
  go_loopw [30] (fun u30 wr => ∃ (i : Nat) (v' : Value), i ≤ l.length ∧ u30 = .int .i64 (i : Int) ∧ Wk N uL uN uW base wr (c - (tI i).length) v' (ns ++ nms (tI i)) ∧ Gr (SW uL uN base) W wr) (fun u30 _ => l.length - (intOf u30).toNat)
  case atStart => exact ⟨0, _, Nat.zero_le _, rfl, by rw [hL0.out, hNm.out]; exact hW0, G0⟩
  case round =>
    obtain ⟨i, v', hi, rfl, hP, hG⟩ := hrel
    obtain ⟨d0, d1, d2⟩ := one_cell hP.left
    obtain ⟨w0, w1, w2⟩ := one_cell hP.fn
    have x4' := cell_gr x4 hG (by rintro (e | e | e) <;> omega)
    by_cases hlt : i < l.length
    · have h1 : (i : Int) < (l.length : Int) := by omega
      by_cases hz : c - (tI i).length = 0
      · have h2 : (((c - (tI i).length : Nat) : Int) == 0) = true := by rw [hz]; rfl
        have e : Hid (tI i = tI l.length) := (hen.out i (.inr (by omega))).trans (hen.out l.length (.inl (Nat.le_refl _))).symm
        replace hz := Lib.hid hz
        go_wp2_with fail
        refine ⟨rfl, .tuple #[], by simp [results, Tryd.results18, go_sem], rfl, v', ?_, hG⟩
        rw [← e.out]; exact hP
      · have h2 : (((c - (tI i).length : Nat) : Int) == 0) = false := by simp; omega
        have hol : (tI i).length < c := by omega
        have hiI : (i : Int) ≤ 4000 := by have := hge.out i hi hol; omega
        have hTi : l[i]? = some l[i] := List.getElem?_eq_getElem hlt
        obtain ⟨g', o', tv', rfl, hgl', hgN', hRi, hci⟩ := hk.out i _ hTi
        have hAi := ih.out l[i] (List.getElem_mem hlt)
        have Hst := Lib.hid (hst.out i _ hTi hol)
        generalize l[i] = U at hRi hAi Hst
        have hTA : TAtG N wr g' (o' + i * 5) U := TAtG.gr ⟨tv', hRi, hci⟩ hG (fun k hk => by rintro (e | e | e) <;> omega) hgN'
        have hgD := Gr.drew wr (fun _ => False)
        have hPD : Wk N uL uN uW base wr.drew (c - (tI i).length) v' (ns ++ nms (tI i)) := ⟨hP.left, hP.nam, hP.fn, hP.row.g0 hgD, hP.ord, hP.many⟩
        have hcall := hAi wr.drew N g' (o' + i * 5) uL uN uW base _ v' _ (hTA.gr hgD (fun _ _ e => e) hgN') hgN' hPD (by omega)
        have Hle := Lib.hid (hle.out i)
        have s1 : SR uL uN uW g o (some ⟨g', o', none⟩) l.length lc wr.drew := ⟨w0, x4'⟩
        obtain ⟨z0, z1⟩ := s1
        have s1 : SR uL uN uW g o (some ⟨g', o', none⟩) l.length lc wr.drew := ⟨z0, z1⟩
        have hgw : g < wr.heap.size := World.block_lt_of_cell? _ _ x4'
        have hgw' : g' < wr.heap.size := by have := hG.size; omega
        replace hcall := Lib.hid hcall
        replace hz := Lib.hid hz
        replace hol := Lib.hid hol
        clear hRi hci hAi hTA hTi
        go_wp2_with fail
        go_region_held3 (SR uL uN uW g o (some ⟨g', o', none⟩) l.length lc) (with_reducible assumption)
          (first
            | (go_at_call 18; refine hcall.out.mono ?_; rintro e w8 ⟨rfl, v8, hP8, g8⟩; have s2 : SR uL uN uW g o (some ⟨g', o', none⟩) l.length lc w8 := ⟨cell_gr s1.1 g8 (by rintro (e | e | e) <;> omega), cell_gr s1.2 g8 (by rintro (e | e | e) <;> omega)⟩)
            | fail)
        all_goals
          have hlen : (tI (i + 1)).length = (tI i).length + ((preL [U]).take (c - (tI i).length)).length := by rw [Hst.out, List.length_append]
          have hP9 : Wk N uL uN uW base w8 (c - (tI (i + 1)).length) v8 (ns ++ nms (tI (i + 1))) := by
            rw [hlen, Hst.out, nms_app, ← List.append_assoc, ← Nat.sub_sub]; exact hP8
          have G9 : Gr (SW uL uN base) W w8 := (hG.trans (Gr.drew _ _)).trans g8
          clear hP8 hlen
          go_wp2_with fail
          exact ⟨⟨i + 1, v8, hlt, by go_num, hP9, G9⟩, by simp [intOf]; omega⟩
    · have h1 : decide ((i : Int) < (l.length : Int)) = false := by simp; omega
      obtain rfl : i = l.length := by omega
      go_wp2_with fail
      exact ⟨rfl, .tuple #[], by simp [results, Tryd.results18, go_sem], rfl, v', hP, hG⟩
end Go.Proofs.YtbmbgnmkakkpfaaDoor
