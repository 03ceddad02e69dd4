/-
  The reference's names of a tree; which trees are large.
-/
import Derived.Test.YtbmbgnmkakkpfaaDoorGS
set_option linter.unusedVariables false
set_option linter.unusedSimpArgs false
namespace Go.Proofs.YtbmbgnmkakkpfaaDoor
open Go.RowKit Go.Maps
variable {W W' : World}

/-- What Deeper does: it answers. -/
def DpOk (T : Tr) : Prop := ∀ (W : World) (N : Nat) (v : Value) (m : Int), Rep (fun k => k < N) W T v → N ≤ W.heap.size → 0 ≤ m → m ≤ 10000 → Calls Tryd.prog 17 #[v, .int .i64 m] W fun e w' => ∃ r, e = .returned (.bool r) ∧ Gr (fun _ => False) W w'
set_option maxRecDepth 100000 in
set_option maxHeartbeats 1600000 in
theorem dp_node (k : Int) (s : ByteArray) (n : Int) (b : List Int) (l : List Tr) (hl : l.length ≤ 4611686018427387904) (ih : ∀ T ∈ l, DpOk T) : DpOk (.mk k s n b l) := by
  intro W N v m hRep hN hm0 hm1
  obtain ⟨ba, bc, la, lc, rfl, hk⟩ := hRep.parts
  have hlI : (l.length : Int) ≤ 4611686018427387904 := by omega
  by_cases hz : m ≤ 0
  · go_enter Tryd.func17, Tryd.ntmps17
    go_wp2_with fail
    go_ret
    exact ⟨true, rfl, Gr.alloc _ _ _⟩
  have hzD : decide (m ≤ 0) = false := by simpa using hz
  have gB := Gr.alloc W (.cells #[.int .i64 k, .string s, .int .i64 n, .slice ba b.length bc, .slice la l.length lc] 25) (fun _ => False)
  have hB := heap_alloc_new W (.cells #[.int .i64 k, .string s, .int .i64 n, .slice ba b.length bc, .slice la l.length lc] 25)
  replace hk := Lib.hid hk
  replace ih := Lib.hid ih
  replace hl := Lib.hid hl
  go_enter Tryd.func17, Tryd.ntmps17
  go_wp2_with fail
  generalize W.alloc _ = WB at gB hB ⊢
  obtain ⟨tb, htb⟩ : ∃ tb, W.heap.size = tb := ⟨_, rfl⟩
  rw [htb] at hB ⊢
  go_loopw [5] (fun u wr => ∃ i : Nat, i ≤ l.length ∧ u = .int .i64 (i : Int) ∧ wr.heap[tb]? = some (.cells #[.int .i64 k, .string s, .int .i64 n, .slice ba b.length bc, .slice la l.length lc] 25 (0, 0)) ∧ Gr (fun _ => False) W wr) (fun u _ => l.length - (intOf u).toNat)
  case atStart => exact ⟨0, Nat.zero_le _, rfl, hB, gB⟩
  case round =>
    obtain ⟨i, hi, rfl, hBr, hG⟩ := hrel
    obtain ⟨⟨m0, m1', m2, m3, m4⟩, _⟩ := five_cells hBr
    have htw : tb < wr.heap.size := (Array.getElem?_eq_some_iff.1 hBr).1
    by_cases hlt : i < l.length
    · have h1 : (i : Int) < (l.length : Int) := by omega
      have hTi : l[i]? = some l[i] := List.getElem?_eq_getElem hlt
      obtain ⟨g, v', rfl, hgl, hgN, hRi, hci⟩ := hk.out i _ hTi
      have hAi := ih.out l[i] (List.getElem_mem hlt)
      generalize l[i] = U at hRi hAi
      obtain ⟨tk, tt, tn, a1, n1, c1, a2, n2, c2, rfl⟩ := hRi.agg
      have k0 : wr.cell? ⟨g, i * 5, none⟩ = some (.int .i64 tk) := cell_gr (hci 0 _ rfl) hG (fun e => e)
      have k1 := cell_gr (hci 1 _ rfl) hG (fun e => e)
      have k2 := cell_gr (hci 2 _ rfl) hG (fun e => e)
      have k3 := cell_gr (hci 3 _ rfl) hG (fun e => e)
      have k4 := cell_gr (hci 4 _ rfl) hG (fun e => e)
      have hRi' : Rep (fun z => z < N) wr U (trv tk tt tn (.slice a1 n1 c1) (.slice a2 n2 c2)) := hRi.turn (fun z hz hl => ⟨hz, hG.block z hl (fun e => e)⟩)
      have hsG := hG.size
      have hcall := hAi wr N _ (m - 1) hRi' (by omega) (by omega) (by omega)
      have hgw : g < wr.heap.size := by omega
      replace hcall := Lib.hid hcall
      clear hAi hRi hci hTi hRi'
      go_wp2_with fail
      refine hcall.out.mono ?_
      rintro e w4 ⟨r, rfl, g4⟩
      have hB4 := g4.keep hBr (fun e => e)
      cases r with
      | true =>
        go_wp2_with fail
        go_ret
        exact ⟨true, rfl, hG.trans g4⟩
      | false =>
        go_wp2_with fail
        exact ⟨⟨i + 1, hlt, by go_num, hB4, hG.trans g4⟩, by simp [intOf]; omega⟩
    · have h1 : decide ((i : Int) < (l.length : Int)) = false := by simp; omega
      go_wp2_with fail
      go_ret
      exact ⟨false, rfl, hG⟩
theorem dp_c (T : Tr) : Szs [T] → DpOk T :=
  Tr.rec (motive_1 := fun T => Szs [T] → DpOk T) (motive_2 := fun l => Szs l → ∀ T ∈ l, DpOk T)
    (fun k s n b l ih hs => by
      have h1 : l.length ≤ 4611686018427387904 := (hs (.mk k s n b l) (by rw [preL_cons]; simp)).2
      refine dp_node k s n b l h1 (ih (fun U hU => hs U ?_))
      rw [preL_cons]
      simp [hU])
    (fun _ T h => by cases h)
    (fun T l h1 h2 hs U hU => by
      have e : preL (T :: l) = preL [T] ++ preL l := preL_app [T] l
      rcases List.mem_cons.1 hU with rfl | hU
      · exact h1 (fun V hV => hs V (by rw [e]; simp [hV]))
      · exact h2 (fun V hV => hs V (by rw [e]; simp [hV])) U hU) T
set_option maxRecDepth 100000 in
set_option maxHeartbeats 1600000 in
theorem large_c (W : World) (T : Tr) (v : Value) (hR : Rep (fun k => k < W.heap.size) W T v) (hs : Szs [T]) : Calls Tryd.prog 8 #[v] W fun e w' => ∃ r, e = .returned (.bool r) ∧ Gr (fun _ => False) W w' := by
  obtain ⟨tk, tt, tn, a1, n1, c1, a2, n2, c2, rfl⟩ := hR.agg
  have gB := Gr.alloc W (.cells #[.int .i64 tk, .string tt, .int .i64 tn, .slice a1 n1 c1, .slice a2 n2 c2] 25) (fun _ => False)
  have hB := heap_alloc_new W (.cells #[.int .i64 tk, .string tt, .int .i64 tn, .slice a1 n1 c1, .slice a2 n2 c2] 25)
  have hRx : ∀ w, Gr (fun _ => False) W w → Rep (fun k => k < W.heap.size) w T (trv tk tt tn (.slice a1 n1 c1) (.slice a2 n2 c2)) := fun w g => hR.turn (fun z hz hl => ⟨hz, g.block z hl (fun e => e)⟩)
  have hd := fun w (g : Gr (fun _ => False) W w) => dp_c T hs w W.heap.size _ 10000 (hRx w g) g.size (by decide) (by decide)
  have ha := fun w (g : Gr (fun _ => False) W w) => all_c T w W.heap.size _ 30000 (hRx w g) g.size (by decide) (by decide)
  replace hd := Lib.hid hd
  replace ha := Lib.hid ha
  clear hRx hR
  go_enter Tryd.func8, Tryd.ntmps8
  go_wp2_with fail
  generalize W.alloc _ = WB at gB hB ⊢
  obtain ⟨tb, htb⟩ : ∃ tb, W.heap.size = tb := ⟨_, rfl⟩
  rw [htb] at hB ⊢
  refine (hd.out WB gB).mono ?_
  rintro e w1 ⟨r, rfl, g1⟩
  have G1 := gB.trans g1
  obtain ⟨⟨m0, m1, m2, m3, m4⟩, _⟩ := five_cells (g1.keep hB (fun e => e))
  cases r with
  | true =>
    go_wp2_with fail
    go_ret
    exact ⟨true, rfl, G1⟩
  | false =>
    go_wp2_with fail
    refine (ha.out w1 G1).mono ?_
    rintro e w2 ⟨v', us, rfl, hrow, hreps, g2⟩
    obtain ⟨sa, sc, rfl⟩ := ownsRow_sv hrow
    go_wp2_with fail
    go_ret
    exact ⟨_, rfl, G1.trans g2⟩
end Go.Proofs.YtbmbgnmkakkpfaaDoor
