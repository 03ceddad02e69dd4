/-
  The names of a tree; two rows of texts that are the same.
-/
import Derived.Test.YtbmbgnmkakkpfaaDoorGRa
import Derived.Test.YtbmbgnmkakkpfaaDoorGRb
import Derived.Test.YtbmbgnmkakkpfaaDoorGRc
import Derived.Test.YtbmbgnmkakkpfaaDoorGRd
set_option linter.unusedVariables false
set_option linter.unusedSimpArgs false
namespace Go.Proofs.YtbmbgnmkakkpfaaDoor
open Go.RowKit Go.Maps
variable {W W' : World}

/-- The texts of a tree, and its rows, are not too long. -/
def szT : Tr → Prop
  | .mk _ s _ _ l => s.size ≤ 140737488351232 ∧ l.length ≤ 4611686018427387904
def Szs (l : List Tr) : Prop := ∀ U ∈ preL l, szT U
theorem walk_node (k : Int) (s : ByteArray) (n : Int) (b : List Int) (l : List Tr) (hs : s.size ≤ 140737488351232) (ih : ∀ T ∈ l, WalkOk T) : WalkOk (.mk k s n b l) := by
  by_cases h2 : k = 2
  · exact walk_2 k s n b l hs ih (by simpa using h2) (by simp [isNm, h2])
  have q2 : (k == 2) = false := by simpa using h2
  by_cases h3 : k = 3
  · exact walk_3 k s n b l hs ih q2 (by simpa using h3) (by simp [isNm, h3])
  have q3 : (k == 3) = false := by simpa using h3
  by_cases h11 : k = 11
  · exact walk_11 k s n b l hs ih q2 q3 (by simpa using h11) (by simp [isNm, h11])
  have q11 : (k == 11) = false := by simpa using h11
  by_cases h17 : k = 17
  · exact walk_17 k s n b l hs ih q2 q3 q11 (by simpa using h17) (by simp [isNm, h17])
  exact walk_no k s n b l ih q2 q3 q11 (by simpa using h17)
theorem walk_c (T : Tr) : Szs [T] → WalkOk T :=
  Tr.rec (motive_1 := fun T => Szs [T] → WalkOk T) (motive_2 := fun l => Szs l → ∀ T ∈ l, WalkOk T)
    (fun k s n b l ih hs => by
      have h1 : s.size ≤ 140737488351232 := (hs (.mk k s n b l) (by rw [preL_cons]; simp)).1
      refine walk_node k s n b l h1 (ih (fun U hU => hs U ?_))
      rw [preL_cons]
      simp [hU])
    (fun _ T h => by cases h)
    (fun T l h1 h2 hs U hU => by
      have e : preL (T :: l) = preL [T] ++ preL l := preL_app [T] l
      rcases List.mem_cons.1 hU with rfl | hU
      · exact h1 (fun V hV => hs V (by rw [e]; simp [hV]))
      · exact h2 (fun V hV => hs V (by rw [e]; simp [hV])) U hU) T
set_option maxRecDepth 100000 in
set_option maxHeartbeats 1600000 in
theorem names_c (W : World) (T : Tr) (v : Value) (hR : Rep (fun k => k < W.heap.size) W T v) (hs : Szs [T]) :
    Calls Tryd.prog 10 #[v] W fun e w' => ∃ v', e = .returned v' ∧ Ns W.heap.size w' v' (nms ((preL [T]).take 4000)) ∧ Gr (fun _ => False) W w' := by
  obtain ⟨tk, tt, tn, a1, n1, c1, a2, n2, c2, rfl⟩ := hR.agg
  have hw := walk_c T hs
  obtain ⟨w1, hw1⟩ : ∃ w, w = W.alloc (.cells #[.int .i64 tk, .string tt, .int .i64 tn, .slice a1 n1 c1, .slice a2 n2 c2] 25) := ⟨_, rfl⟩
  obtain ⟨w2, hw2⟩ : ∃ w, w = w1.alloc (.cells #[.slice none 0 0] 29) := ⟨_, rfl⟩
  obtain ⟨w3, hw3⟩ : ∃ w, w = w2.alloc (.cells #[.int .i64 4000] 3) := ⟨_, rfl⟩
  obtain ⟨w4, hw4⟩ : ∃ w, w = w3.alloc (.cells #[wlk (W.heap.size + 1 + 1) (W.heap.size + 1) (W.heap.size + 1 + 1 + 1)] 48) := ⟨_, rfl⟩
  have g1 : Gr (fun _ => False) W w1 := hw1 ▸ Gr.alloc _ _ _
  have g2 : Gr (fun _ => False) w1 w2 := hw2 ▸ Gr.alloc _ _ _
  have g3 : Gr (fun _ => False) w2 w3 := hw3 ▸ Gr.alloc _ _ _
  have g4 : Gr (fun _ => False) w3 w4 := hw4 ▸ Gr.alloc _ _ _
  have z1 : w1.heap.size = W.heap.size + 1 := by rw [hw1]; simp
  have z2 : w2.heap.size = W.heap.size + 2 := by rw [hw2]; simp [z1]
  have z3 : w3.heap.size = W.heap.size + 3 := by rw [hw3]; simp [z2]
  have z4 : w4.heap.size = W.heap.size + 4 := by rw [hw4]; simp [z3]
  have b1 : w1.heap[W.heap.size]? = some (.cells #[.int .i64 tk, .string tt, .int .i64 tn, .slice a1 n1 c1, .slice a2 n2 c2] 25 (0, 0)) := hw1 ▸ heap_alloc_new W _
  have b2 : w2.heap[W.heap.size + 1]? = some (.cells #[nl] 29 (0, 0)) := by rw [← z1, hw2]; exact heap_alloc_new w1 _
  have b3 : w3.heap[W.heap.size + 1 + 1]? = some (.cells #[.int .i64 4000] 3 (0, 0)) := by rw [show W.heap.size + 1 + 1 = w2.heap.size by omega, hw3]; exact heap_alloc_new w2 _
  have b4 : w4.heap[W.heap.size + 1 + 1 + 1]? = some (.cells #[wlk (W.heap.size + 1 + 1) (W.heap.size + 1) (W.heap.size + 1 + 1 + 1)] 48 (0, 0)) := by
    have := heap_alloc_new w3 (.cells #[wlk (W.heap.size + 1 + 1) (W.heap.size + 1) (W.heap.size + 1 + 1 + 1)] 48)
    rw [z3] at this
    rw [hw4]; exact this
  have G : Gr (fun _ => False) W w4 := ((g1.trans g2).trans g3).trans g4
  have B1 := ((g2.trans g3).trans g4).keep b1 (fun e => e)
  have B2 := (g3.trans g4).keep b2 (fun e => e)
  have B3 := g4.keep b3 (fun e => e)
  have hTA : TAt (W.heap.size + 1) w4 W.heap.size 0 T := by
    refine ⟨_, hR.turn (fun z hz hl => ⟨by omega, G.block z hl (fun e => e)⟩), fun j u hj => ?_⟩
    simp only [cellsOf] at hj
    simp only [World.cell?, B1, Nat.zero_add]
    simpa using hj
  have hWk : Wk (W.heap.size + 1) (W.heap.size + 1 + 1) (W.heap.size + 1) (W.heap.size + 1 + 1 + 1) (W.heap.size + 4) w4 4000 nl [] :=
    ⟨B3, B2, b4, Ns.nil _ _ (by omega), ⟨by omega, by omega, by omega, by omega, by omega, by omega, by omega, by omega, by omega⟩, by simp⟩
  have hcl := hw w4 _ _ 0 _ _ _ _ _ _ _ hTA (Nat.lt_succ_self _) hWk (by decide)
  have HW : Hid ((((W.alloc (.cells #[.int .i64 tk, .string tt, .int .i64 tn, .slice a1 n1 c1, .slice a2 n2 c2] 25)).alloc (.cells #[.slice none 0 0] 29)).alloc (.cells #[.int .i64 4000] 3)).alloc (.cells #[.func (.func 18) #[] #[.pointer (some ⟨W.heap.size + 1 + 1, 0, none⟩), .pointer (some ⟨W.heap.size + 1, 0, none⟩), .pointer (some ⟨W.heap.size + 1 + 1 + 1, 0, none⟩)]] 48) = w4) := by
    show _ = _
    rw [hw4, hw3, hw2, hw1]
  replace hcl := Lib.hid hcl
  replace z4 := Lib.hid z4
  clear hw1 hw2 hw3 hw4 g1 g2 g3 g4 z1 z2 z3 b1 b2 b3 b4 B1 B2 B3 hTA hWk
  go_enter Tryd.func10, Tryd.ntmps10
  go_wp2_with fail
  rw [HW.out]
  refine hcl.out.mono ?_
  rintro e w5 ⟨rfl, v', hWk', g5⟩
  obtain ⟨x0, x1, x2⟩ := one_cell hWk'.nam
  obtain ⟨sa, sc, rfl⟩ := hWk'.row.sv
  go_wp2_with fail
  go_ret
  refine ⟨_, rfl, ?_, G.trans' g5 (fun k hk e => by rcases e with e | e | e <;> omega)⟩
  have hr := hWk'.row
  exact ⟨hr.len, ownsRow_base hr.row (by omega), by have := G.size; have := g5.size; omega⟩
set_option maxRecDepth 100000 in
set_option maxHeartbeats 1600000 in
theorem texts_c (W : World) (va vb : Value) (ns : List ByteArray) (b1 b2 : Nat) (ha : Ns b1 W va ns) (hb : Ns b2 W vb ns) : Calls Tryd.prog 9 #[va, vb] W fun e w' => e = .returned (.bool true) ∧ Gr (fun _ => False) W w' := by
  obtain ⟨aa, ac, rfl⟩ := ha.sv
  obtain ⟨ba, bc, rfl⟩ := hb.sv
  have hl := ha.len
  have hlI : (ns.length : Int) ≤ 40000 := by omega
  have hca : ∀ k s, ns[k]? = some s → ∃ g, aa = some ⟨g, 0, none⟩ ∧ W.cell? ⟨g, k, none⟩ = some (.string s) := by
    intro k s hk
    rcases ha.row.2 with ⟨e, h0⟩ | ⟨g, cap, cur, e, hg, h2, h3, _, _, h6⟩
    · rw [List.eq_nil_of_length_eq_zero h0] at hk; simp at hk
    · simp only [Value.slice.injEq, true_and] at e
      obtain ⟨rfl, rfl⟩ := e
      refine ⟨g, rfl, ?_⟩
      have hlt : k < ns.length * 1 := by have := (List.getElem?_eq_some_iff.1 hk).1; omega
      have : (ns.map Value.string)[k]? = some (.string s) := by simp [hk]
      rw [← h6, List.getElem?_take_of_lt hlt] at this
      simp only [World.cell?, h2]
      simpa using this
  have hcb : ∀ k s, ns[k]? = some s → ∃ g, ba = some ⟨g, 0, none⟩ ∧ W.cell? ⟨g, k, none⟩ = some (.string s) := by
    intro k s hk
    rcases hb.row.2 with ⟨e, h0⟩ | ⟨g, cap, cur, e, hg, h2, h3, _, _, h6⟩
    · rw [List.eq_nil_of_length_eq_zero h0] at hk; simp at hk
    · simp only [Value.slice.injEq, true_and] at e
      obtain ⟨rfl, rfl⟩ := e
      refine ⟨g, rfl, ?_⟩
      have hlt : k < ns.length * 1 := by have := (List.getElem?_eq_some_iff.1 hk).1; omega
      have : (ns.map Value.string)[k]? = some (.string s) := by simp [hk]
      rw [← h6, List.getElem?_take_of_lt hlt] at this
      simp only [World.cell?, h2]
      simpa using this
  replace hca := Lib.hid hca
  replace hcb := Lib.hid hcb
  have hne : (((ns.length : Nat) : Int) != ((ns.length : Nat) : Int)) = false := by simp
  clear ha hb hl
  go_enter Tryd.func9, Tryd.ntmps9
  go_wp2_with fail
  go_loopw [5] (fun u wr => ∃ k : Nat, k ≤ ns.length ∧ u = .int .i64 (k : Int) ∧ Gr (fun _ => False) W wr) (fun u _ => ns.length - (intOf u).toNat)
  case atStart => exact ⟨0, Nat.zero_le _, rfl, Gr.refl _ _⟩
  case round =>
    obtain ⟨k, hk, rfl, hG⟩ := hrel
    by_cases hlt : k < ns.length
    · have h1 : (k : Int) < (ns.length : Int) := by omega
      have hnk : ns[k]? = some ns[k] := List.getElem?_eq_getElem hlt
      obtain ⟨ga, rfl, x1⟩ := hca.out k _ hnk
      obtain ⟨gb, rfl, x2⟩ := hcb.out k _ hnk
      generalize ns[k] = s at x1 x2
      have y1 := cell_gr x1 hG (fun e => e)
      have y2 := cell_gr x2 hG (fun e => e)
      have hss : (s.toList != s.toList) = false := by simp
      clear x1 x2 hnk
      go_wp2_with fail
      go_quiet (fail)
      go_wp2_with fail
      exact ⟨⟨k + 1, hlt, by go_num, hG.trans (Gr.drewN _ _ _)⟩, by simp [intOf]; omega⟩
    · have h1 : decide ((k : Int) < (ns.length : Int)) = false := by simp; omega
      go_wp2_with fail
      go_ret
      exact ⟨rfl, hG⟩
end Go.Proofs.YtbmbgnmkakkpfaaDoor
