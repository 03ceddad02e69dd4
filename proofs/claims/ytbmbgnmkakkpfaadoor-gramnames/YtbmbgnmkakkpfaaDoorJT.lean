/-
  Which trees are large.
  The reference names of any tree.
-/
import Derived.Test.YtbmbgnmkakkpfaaDoorJA
import Derived.Test.YtbmbgnmkakkpfaaDoorGS
import Derived.Test.YtbmbgnmkakkpfaaDoorGV
set_option linter.unusedVariables false
set_option linter.unusedSimpArgs false
namespace Go.Proofs.YtbmbgnmkakkpfaaDoor
open Go.RowKit Go.Maps
variable {W W' : World}
/-- What Deeper does: it answers. -/
def DpOkG (T : Tr) : Prop := ∀ (W : World) (N : Nat) (v : Value) (m : Int), RepG (fun k => k < N) W T v → N ≤ W.heap.size → 0 ≤ m → m ≤ 10000 → Calls Tryd.prog 17 #[v, .int .i64 m] W fun e w' => ∃ r, e = .returned (.bool r) ∧ Gr (fun _ => False) W w'
set_option maxRecDepth 100000 in
set_option maxHeartbeats 1600000 in
theorem dpg_node (k : Int) (s : ByteArray) (n : Int) (b : List Int) (l : List Tr) (hl : l.length ≤ 4611686018427387904) (ih : ∀ T ∈ l, DpOkG T) : DpOkG (.mk k s n b l) := by
  intro W N v m hRep hN hm0 hm1
  obtain ⟨ba, bc, la, lc, rfl, hk⟩ := hRep.parts
  have hlI : (l.length : Int) ≤ 4611686018427387904 := by omega
  by_cases hz : m ≤ 0
  · go_enter Tryd.func17, Tryd.ntmps17
    go_wp2_with fail
    go_ret
    exact ⟨true, rfl, Gr.alloc _ _ _⟩
  have hzD : decide (m ≤ 0) = false := by simpa using hz
  have gB := Gr.alloc W (.cells #[.int .i64 k, .string s, .int .i64 n, .slice ba b.length bc, .slice la l.length lc] 25) (fun _ => False)
  have hB := heap_alloc_new W (.cells #[.int .i64 k, .string s, .int .i64 n, .slice ba b.length bc, .slice la l.length lc] 25)
  replace hk := Lib.hid hk
  replace ih := Lib.hid ih
  replace hl := Lib.hid hl
  go_enter Tryd.func17, Tryd.ntmps17
  go_wp2_with fail
  generalize W.alloc _ = WB at gB hB ⊢
  obtain ⟨tb, htb⟩ : ∃ tb, W.heap.size = tb := ⟨_, rfl⟩
  rw [htb] at hB ⊢
  go_loopw [5] (fun u wr => ∃ i : Nat, i ≤ l.length ∧ u = .int .i64 (i : Int) ∧ wr.heap[tb]? = some (.cells #[.int .i64 k, .string s, .int .i64 n, .slice ba b.length bc, .slice la l.length lc] 25 (0, 0)) ∧ Gr (fun _ => False) W wr) (fun u _ => l.length - (intOf u).toNat)
  case atStart => exact ⟨0, Nat.zero_le _, rfl, hB, gB⟩
  case round =>
    obtain ⟨i, hi, rfl, hBr, hG⟩ := hrel
    obtain ⟨⟨m0, m1', m2, m3, m4⟩, _⟩ := five_cells hBr
    have htw : tb < wr.heap.size := (Array.getElem?_eq_some_iff.1 hBr).1
    by_cases hlt : i < l.length
    · have h1 : (i : Int) < (l.length : Int) := by omega
      have hTi : l[i]? = some l[i] := List.getElem?_eq_getElem hlt
      obtain ⟨g, o, v', rfl, hgl, hgN, hRi, hci⟩ := hk.out i _ hTi
      have hAi := ih.out l[i] (List.getElem_mem hlt)
      generalize l[i] = U at hRi hAi
      obtain ⟨tk, tt, tn, a1, n1, c1, a2, n2, c2, rfl⟩ := hRi.agg
      have k0 : wr.cell? ⟨g, o + i * 5, none⟩ = some (.int .i64 tk) := cell_gr (hci 0 _ rfl) hG (fun e => e)
      have k1 := cell_gr (hci 1 _ rfl) hG (fun e => e)
      have k2 := cell_gr (hci 2 _ rfl) hG (fun e => e)
      have k3 := cell_gr (hci 3 _ rfl) hG (fun e => e)
      have k4 := cell_gr (hci 4 _ rfl) hG (fun e => e)
      have hRi' : RepG (fun z => z < N) wr U (trv tk tt tn (.slice a1 n1 c1) (.slice a2 n2 c2)) := hRi.turn (fun z hz hl => ⟨hz, hG.block z hl (fun e => e)⟩)
      have hsG := hG.size
      have hcall := hAi wr N _ (m - 1) hRi' (by omega) (by omega) (by omega)
      have hgw : g < wr.heap.size := by omega
      replace hcall := Lib.hid hcall
      clear hAi hRi hci hTi hRi'
      go_wp2_with fail
      refine hcall.out.mono ?_
      rintro e w4 ⟨r, rfl, g4⟩
      have hB4 := g4.keep hBr (fun e => e)
      cases r with
      | true =>
        go_wp2_with fail
        go_ret
        exact ⟨true, rfl, hG.trans g4⟩
      | false =>
        go_wp2_with fail
        exact ⟨⟨i + 1, hlt, by go_num, hB4, hG.trans g4⟩, by simp [intOf]; omega⟩
    · have h1 : decide ((i : Int) < (l.length : Int)) = false := by simp; omega
      go_wp2_with fail
      go_ret
      exact ⟨false, rfl, hG⟩
theorem dpg_c (T : Tr) : Szs [T] → DpOkG T :=
  Tr.rec (motive_1 := fun T => Szs [T] → DpOkG T) (motive_2 := fun l => Szs l → ∀ T ∈ l, DpOkG T)
    (fun k s n b l ih hs => by
      have h1 : l.length ≤ 4611686018427387904 := (hs (.mk k s n b l) (by rw [preL_cons]; simp)).2
      refine dpg_node k s n b l h1 (ih (fun U hU => hs U ?_))
      rw [preL_cons]
      simp [hU])
    (fun _ T h => by cases h)
    (fun T l h1 h2 hs U hU => by
      have e : preL (T :: l) = preL [T] ++ preL l := preL_app [T] l
      rcases List.mem_cons.1 hU with rfl | hU
      · exact h1 (fun V hV => hs V (by rw [e]; simp [hV]))
      · exact h2 (fun V hV => hs V (by rw [e]; simp [hV])) U hU) T
set_option maxRecDepth 100000 in
set_option maxHeartbeats 1600000 in
theorem largeg_c (W : World) (T : Tr) (v : Value) (hR : RepG (fun k => k < W.heap.size) W T v) (hs : Szs [T]) : Calls Tryd.prog 8 #[v] W fun e w' => ∃ r, e = .returned (.bool r) ∧ Gr (fun _ => False) W w' := by
  obtain ⟨tk, tt, tn, a1, n1, c1, a2, n2, c2, rfl⟩ := hR.agg
  have gB := Gr.alloc W (.cells #[.int .i64 tk, .string tt, .int .i64 tn, .slice a1 n1 c1, .slice a2 n2 c2] 25) (fun _ => False)
  have hB := heap_alloc_new W (.cells #[.int .i64 tk, .string tt, .int .i64 tn, .slice a1 n1 c1, .slice a2 n2 c2] 25)
  have hRx : ∀ w, Gr (fun _ => False) W w → RepG (fun k => k < W.heap.size) w T (trv tk tt tn (.slice a1 n1 c1) (.slice a2 n2 c2)) := fun w g => hR.turn (fun z hz hl => ⟨hz, g.block z hl (fun e => e)⟩)
  have hd := fun w (g : Gr (fun _ => False) W w) => dpg_c T hs w W.heap.size _ 10000 (hRx w g) g.size (by decide) (by decide)
  have ha := fun w (g : Gr (fun _ => False) W w) => allg_c T w W.heap.size _ 30000 (hRx w g) g.size (by decide) (by decide)
  replace hd := Lib.hid hd
  replace ha := Lib.hid ha
  clear hRx hR
  go_enter Tryd.func8, Tryd.ntmps8
  go_wp2_with fail
  generalize W.alloc _ = WB at gB hB ⊢
  obtain ⟨tb, htb⟩ : ∃ tb, W.heap.size = tb := ⟨_, rfl⟩
  rw [htb] at hB ⊢
  refine (hd.out WB gB).mono ?_
  rintro e w1 ⟨r, rfl, g1⟩
  have G1 := gB.trans g1
  obtain ⟨⟨m0, m1, m2, m3, m4⟩, _⟩ := five_cells (g1.keep hB (fun e => e))
  cases r with
  | true =>
    go_wp2_with fail
    go_ret
    exact ⟨true, rfl, G1⟩
  | false =>
    go_wp2_with fail
    refine (ha.out w1 G1).mono ?_
    rintro e w2 ⟨v', us, rfl, hrow, hreps, g2⟩
    obtain ⟨sa, sc, rfl⟩ := ownsRow_sv hrow
    go_wp2_with fail
    go_ret
    exact ⟨_, rfl, G1.trans g2⟩
end Go.Proofs.YtbmbgnmkakkpfaaDoor

namespace Go.Proofs.YtbmbgnmkakkpfaaDoor
open Go.RowKit Go.Maps
variable {W W' : World}
theorem rowg_at {base : Nat} {v : Value} {l : List Tr} {us : List Value} {A : Nat → Prop} (hr : W.ownsRow base 25 5 v l.length (us.flatMap cellsOf)) (hp : RepsG A W l us) (i : Nat) (k : Int) (s : ByteArray) (n : Int) (b : List Int) (q : List Tr) (hi : l[i]? = some (.mk k s n b q)) :
    ∃ g c, v = .slice (some ⟨g, 0, none⟩) l.length c ∧ g < W.heap.size ∧ W.cell? ⟨g, i * 5, none⟩ = some (.int .i64 k) ∧ W.cell? ⟨g, i * 5 + 1, none⟩ = some (.string s) := by
  have hlt : i < l.length := (List.getElem?_eq_some_iff.1 hi).1
  obtain ⟨g, c, rfl, hc⟩ := row_cells hr (by omega)
  obtain ⟨v', h1, h2⟩ := RepsG.at hp i _ hi
  obtain ⟨bv, lv, vs, rfl, _⟩ := h1
  have hadd : ∀ j, (⟨g, 0, none⟩ : Addr).add j = ⟨g, j, none⟩ := fun j => by unfold Addr.add; split <;> simp_all
  have x0 := hc _ _ (h2 0 _ rfl)
  have x1 := hc _ _ (h2 1 _ rfl)
  rw [hadd] at x0 x1
  exact ⟨g, c, rfl, World.block_lt_of_cell? _ _ x0, x0, x1⟩
set_option maxRecDepth 100000 in
set_option maxHeartbeats 4000000 in
theorem refnamesg_c (W : World) (T : Tr) (v : Value) (hR : RepG (fun k => k < W.heap.size) W T v) :
    Calls Tryd.prog 11 #[v] W fun e w' => ∃ v', e = .returned v' ∧ Ns W.heap.size w' v' (nms ((preL [T]).take 4000)) ∧ Gr (fun _ => False) W w' := by
  obtain ⟨tk, tt, tn, a1, n1, c1, a2, n2, c2, rfl⟩ := hR.agg
  have gB := Gr.alloc W (.cells #[.int .i64 tk, .string tt, .int .i64 tn, .slice a1 n1 c1, .slice a2 n2 c2] 25) (fun _ => False)
  have ha := fun w (g : Gr (fun _ => False) W w) => allg_c T w W.heap.size _ 4000 (hR.turn (A' := fun k => k < W.heap.size) (fun z hz hl => ⟨hz, g.block z hl (fun e => e)⟩)) g.size (by decide) (by decide)
  have hlen : ((preL [T]).take 4000).length ≤ 4000 := by rw [List.length_take]; omega
  generalize (preL [T]).take 4000 = o at ha hlen ⊢
  have hlenI : (o.length : Int) ≤ 4000 := by omega
  replace hlen := Lib.hid hlen
  replace ha := Lib.hid ha
  clear hR
  go_enter Tryd.func11, Tryd.ntmps11
  go_wp2_with fail
  generalize W.alloc _ = WB at gB ⊢
  refine (ha.out WB gB).mono ?_
  rintro e w1 ⟨v', us, rfl, hrow, hreps, g1⟩
  have G1 := gB.trans g1
  obtain ⟨oa, oc, rfl⟩ := ownsRow_sv hrow
  have hat := fun (w : World) (g : Gr (fun _ => False) w1 w) i k s n b q hi => rowg_at (W := w) (ownsRow_gr hrow g (fun _ _ e => e)) (hreps.turn (A' := fun k => k < W.heap.size) (fun z hz hl => ⟨hz, g.block z hl (fun e => e)⟩)) i k s n b q hi
  replace hat := Lib.hid hat
  go_wp2_with fail
  go_loopw [3, 5] (fun u3 u5 wr => ∃ i : Nat, i ≤ o.length ∧ u5 = .int .i64 (i : Int) ∧ Ns w1.heap.size wr u3 (nms (o.take i)) ∧ Gr (fun _ => False) w1 wr) (fun _ u5 _ => o.length - (intOf u5).toNat)
  case atStart => exact ⟨0, Nat.zero_le _, rfl, by rw [List.take_zero]; exact Ns.nil _ _ (Nat.le_refl _), Gr.refl _ _⟩
  case round =>
    obtain ⟨i, hi, rfl, hN, hG⟩ := hrel
    by_cases hlt : i < o.length
    · have h1 : (i : Int) < (o.length : Int) := by omega
      have hTi : o[i]? = some o[i] := List.getElem?_eq_getElem hlt
      have htk : Hid (nms (o.take (i + 1)) = nms (o.take i) ++ nmOf o[i]) := by
        show _ = _
        rw [List.take_add_one, hTi, nms_app]
        simp [nms]
      have hnl : Hid ((nms (o.take i)).length < 40000) := by
        have := nms_len (o.take i)
        rw [List.length_take] at this
        have := hlen.out
        show _ < _
        omega
      generalize o[i] = U at hTi htk
      obtain ⟨k, s, n, b, q⟩ := U
      obtain ⟨g, c, e, hgl, x0, x1⟩ := hat.out wr hG i k s n b q hTi
      simp only [Value.slice.injEq, true_and] at e
      obtain ⟨rfl, rfl⟩ := e
      obtain ⟨na, nc, rfl⟩ := hN.sv
      by_cases h2 : k = 2
      · have q2 : (k == 2) = true := by simpa using h2
        have hnm : nmOf (.mk k s n b q) = [s] := by simp [nmOf, isNm, h2]
        rw [hnm] at htk
        clear h2
        have hsz := hG.size
        go_wp2_with (first
          | (at_builtin; refine wpList_ns rfl _ _ rfl w1.heap.size _ (nms (o.take i)) wr.heap.size s rfl rfl (hN.g0 (Gr.alloc wr _ _)) (new_cell wr s) hnl.out ?_; intro v5 w5 hN5 g5; obtain ⟨a5, c5, rfl⟩ := hN5.sv)
          | fail)
        have G5 : Gr (fun _ => False) w1 w5 := (hG.trans (Gr.alloc wr (.cells #[.string s] 9) _)).trans' g5 (fun k hk e => by omega)
        have hl5 : (nms (o.take i) ++ [s]).length = (nms (o.take i)).length + 1 := by simp
        have hN6 : Ns w1.heap.size w5 (.slice a5 ((nms (o.take i)).length + 1) c5) (nms (o.take (i + 1))) := by rw [htk.out, ← hl5]; exact hN5
        exact ⟨⟨i + 1, hlt, by go_num, hN6, G5⟩, by simp [intOf]; omega⟩
      have q2 : (k == 2) = false := by simpa using h2
      by_cases h3 : k = 3
      · have q3 : (k == 3) = true := by simpa using h3
        have hnm : nmOf (.mk k s n b q) = [s] := by simp [nmOf, isNm, h3]
        rw [hnm] at htk
        clear h3
        have hsz := hG.size
        go_wp2_with (first
          | (at_builtin; refine wpList_ns rfl _ _ rfl w1.heap.size _ (nms (o.take i)) wr.heap.size s rfl rfl (hN.g0 (Gr.alloc wr _ _)) (new_cell wr s) hnl.out ?_; intro v5 w5 hN5 g5; obtain ⟨a5, c5, rfl⟩ := hN5.sv)
          | fail)
        have G5 : Gr (fun _ => False) w1 w5 := (hG.trans (Gr.alloc wr (.cells #[.string s] 9) _)).trans' g5 (fun k hk e => by omega)
        have hl5 : (nms (o.take i) ++ [s]).length = (nms (o.take i)).length + 1 := by simp
        have hN6 : Ns w1.heap.size w5 (.slice a5 ((nms (o.take i)).length + 1) c5) (nms (o.take (i + 1))) := by rw [htk.out, ← hl5]; exact hN5
        exact ⟨⟨i + 1, hlt, by go_num, hN6, G5⟩, by simp [intOf]; omega⟩
      have q3 : (k == 3) = false := by simpa using h3
      by_cases h11 : k = 11
      · have q11 : (k == 11) = true := by simpa using h11
        have hnm : nmOf (.mk k s n b q) = [s] := by simp [nmOf, isNm, h11]
        rw [hnm] at htk
        clear h11
        have hsz := hG.size
        go_wp2_with (first
          | (at_builtin; refine wpList_ns rfl _ _ rfl w1.heap.size _ (nms (o.take i)) wr.heap.size s rfl rfl (hN.g0 (Gr.alloc wr _ _)) (new_cell wr s) hnl.out ?_; intro v5 w5 hN5 g5; obtain ⟨a5, c5, rfl⟩ := hN5.sv)
          | fail)
        have G5 : Gr (fun _ => False) w1 w5 := (hG.trans (Gr.alloc wr (.cells #[.string s] 9) _)).trans' g5 (fun k hk e => by omega)
        have hl5 : (nms (o.take i) ++ [s]).length = (nms (o.take i)).length + 1 := by simp
        have hN6 : Ns w1.heap.size w5 (.slice a5 ((nms (o.take i)).length + 1) c5) (nms (o.take (i + 1))) := by rw [htk.out, ← hl5]; exact hN5
        exact ⟨⟨i + 1, hlt, by go_num, hN6, G5⟩, by simp [intOf]; omega⟩
      have q11 : (k == 11) = false := by simpa using h11
      by_cases h17 : k = 17
      · have q17 : (k == 17) = true := by simpa using h17
        have hnm : nmOf (.mk k s n b q) = [s] := by simp [nmOf, isNm, h17]
        rw [hnm] at htk
        clear h17
        have hsz := hG.size
        go_wp2_with (first
          | (at_builtin; refine wpList_ns rfl _ _ rfl w1.heap.size _ (nms (o.take i)) wr.heap.size s rfl rfl (hN.g0 (Gr.alloc wr _ _)) (new_cell wr s) hnl.out ?_; intro v5 w5 hN5 g5; obtain ⟨a5, c5, rfl⟩ := hN5.sv)
          | fail)
        have G5 : Gr (fun _ => False) w1 w5 := (hG.trans (Gr.alloc wr (.cells #[.string s] 9) _)).trans' g5 (fun k hk e => by omega)
        have hl5 : (nms (o.take i) ++ [s]).length = (nms (o.take i)).length + 1 := by simp
        have hN6 : Ns w1.heap.size w5 (.slice a5 ((nms (o.take i)).length + 1) c5) (nms (o.take (i + 1))) := by rw [htk.out, ← hl5]; exact hN5
        exact ⟨⟨i + 1, hlt, by go_num, hN6, G5⟩, by simp [intOf]; omega⟩
      have q17 : (k == 17) = false := by simpa using h17
      have hnm : nmOf (.mk k s n b q) = [] := by simp [nmOf, isNm, h2, h3, h11, h17]
      rw [hnm, List.append_nil] at htk
      clear h2 h3 h11 h17
      go_wp2_with fail
      exact ⟨⟨i + 1, hlt, by go_num, by rw [htk.out]; exact hN, hG⟩, by simp [intOf]; omega⟩
    · have h1 : decide ((i : Int) < (o.length : Int)) = false := by simp; omega
      obtain rfl : i = o.length := by omega
      rw [List.take_length] at hN
      obtain ⟨na, nc, rfl⟩ := hN.sv
      go_wp2_with fail
      go_ret
      exact ⟨_, rfl, ⟨hN.len, ownsRow_base hN.row G1.size, Nat.le_trans G1.size hN.bas⟩, G1.trans hG⟩
end Go.Proofs.YtbmbgnmkakkpfaaDoor
