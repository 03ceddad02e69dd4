/-
  Slots: a function's names.
  What is too much in one part: overfull.
-/
import Derived.Test.YtjedbfbolifjjaaGreatDoorKR
import Derived.Test.YtjedbfbolifjjaaGreatDoorKO
set_option linter.unusedVariables false
set_option linter.unusedSimpArgs false
namespace Go.Proofs.YtjedbfbolifjjaaGreatDoor
open Go.RowKit Go.Maps
variable {W W' : World}
theorem sl_all (N : Nat) (T : Tr) : Szs [T] → SlOk N T.l :=
 Tr.rec (motive_1 := fun T => Szs [T] → SlOk N T.l) (motive_2 := fun l => Szs l → ∀ T ∈ l, SlOk N T.l)
  (fun k s n b l ih hs => by
    have h1 : Szs l := fun U hU => hs U (by rw [preL_cons]; simp [hU])
    exact sl_node N l h1 (ih h1))
  (fun _ T h => by cases h)
  (fun T l h1 h2 hs U hU => by
    have e : preL (T :: l) = preL [T] ++ preL l := preL_app [T] l
    rcases List.mem_cons.1 hU with rfl | hU
    · exact h1 (fun V hV => hs V (by rw [e]; simp [hV]))
    · exact h2 (fun V hV => hs V (by rw [e]; simp [hV])) U hU) T
def slotV : Tr → List ByteArray
 | .mk k _ _ _ l => if k = 17 then slL [] l else []
set_option maxRecDepth 100000 in
set_option maxHeartbeats 1600000 in
theorem slots_c (W : World) (k : Int) (s : ByteArray) (n : Int) (b : List Int) (l : List Tr) (v : Value) (hR : RepG (fun z => z < W.heap.size) W (.mk k s n b l) v) (hs : Szs [.mk k s n b l]) (hl : (preL l).length ≤ 30000) :
 Calls Tryz.prog 20 #[v] W fun e w' => ∃ v', e = .returned v' ∧ Ns W.heap.size w' v' (slotV (.mk k s n b l)) ∧ Gr (fun _ => False) W w' := by
 have hw := sl_all W.heap.size (.mk k s n b l) hs
 dsimp only at hw
 obtain ⟨ba, bc, la, lc, rfl, hk⟩ := hR.parts
 have hrow : RowAt W.heap.size W la l := fun i T hi => by
  obtain ⟨g', o', v', e, hl, hA, hR, hc⟩ := hk i T hi
  exact ⟨g', o', e, hA, v', hR, hc⟩
 clear hk hR
 by_cases hk : k = 17
 case neg =>
  have hk' : (k != 17) = true := by simpa using hk
  have hk2 : (k == 17) = false := by simpa using hk
  show Calls Tryz.prog 20 _ W fun e w' => ∃ v', e = .returned v' ∧ Ns W.heap.size w' v' (if k = 17 then slL [] l else []) ∧ Gr (fun _ => False) W w'
  rw [if_neg hk]
  clear hrow hw hs
  go_enter Tryz.func20, Tryz.ntmps20
  go_wp2_with fail
  go_ret
  exact ⟨_, rfl, Ns.nil _ _ (Gr.alloc W _ (fun _ => False)).size, Gr.alloc _ _ _⟩
 subst hk
 show Calls Tryz.prog 20 _ W fun e w' => ∃ v', e = .returned v' ∧ Ns W.heap.size w' v' (slL [] l) ∧ Gr (fun _ => False) W w'
 obtain ⟨w1, hw1⟩ : ∃ w, w = W.alloc (.cells #[.int .i64 17, .string s, .int .i64 n, .slice ba b.length bc, .slice la l.length lc] 25) := ⟨_, rfl⟩
 obtain ⟨w2, hw2⟩ : ∃ w, w = w1.alloc (.cells #[.slice none 0 0] 39) := ⟨_, rfl⟩
 obtain ⟨w3, hw3⟩ : ∃ w, w = w2.alloc (.map #[] 0) := ⟨_, rfl⟩
 obtain ⟨w4, hw4⟩ : ∃ w, w = w3.alloc (.cells #[.map (some (W.heap.size + 1 + 1))] 66) := ⟨_, rfl⟩
 obtain ⟨w5, hw5⟩ : ∃ w, w = w4.alloc (.cells #[.int .i64 2147483647] 3) := ⟨_, rfl⟩
 obtain ⟨w6, hw6⟩ : ∃ w, w = w5.alloc (.cells #[wkS (W.heap.size + 1 + 1 + 1 + 1) (W.heap.size + 1 + 1 + 1) (W.heap.size + 1) (W.heap.size + 1 + 1 + 1 + 1 + 1)] 67) := ⟨_, rfl⟩
 have g1 : Gr (fun _ => False) W w1 := hw1 ▸ Gr.alloc _ _ _
 have g2 : Gr (fun _ => False) w1 w2 := hw2 ▸ Gr.alloc _ _ _
 have g3 : Gr (fun _ => False) w2 w3 := hw3 ▸ Gr.alloc _ _ _
 have g4 : Gr (fun _ => False) w3 w4 := hw4 ▸ Gr.alloc _ _ _
 have g5 : Gr (fun _ => False) w4 w5 := hw5 ▸ Gr.alloc _ _ _
 have g6 : Gr (fun _ => False) w5 w6 := hw6 ▸ Gr.alloc _ _ _
 have z1 : w1.heap.size = W.heap.size + 1 := by rw [hw1]; simp
 have z2 : w2.heap.size = W.heap.size + 2 := by rw [hw2]; simp [z1]
 have z3 : w3.heap.size = W.heap.size + 3 := by rw [hw3]; simp [z2]
 have z4 : w4.heap.size = W.heap.size + 4 := by rw [hw4]; simp [z3]
 have z5 : w5.heap.size = W.heap.size + 5 := by rw [hw5]; simp [z4]
 have z6 : w6.heap.size = W.heap.size + 6 := by rw [hw6]; simp [z5]
 have b1 : w1.heap[W.heap.size]? = some (.cells #[.int .i64 17, .string s, .int .i64 n, .slice ba b.length bc, .slice la l.length lc] 25 (0, 0)) := hw1 ▸ heap_alloc_new W _
 have b2 : w2.heap[W.heap.size + 1]? = some (.cells #[nl] 39 (0, 0)) := by rw [← z1, hw2]; exact heap_alloc_new w1 _
 have b3 : Bd w3 (W.heap.size + 1 + 1) [] := by rw [show W.heap.size + 1 + 1 = w2.heap.size by omega, hw3]; exact Bd.new w2
 have b4 : w4.heap[W.heap.size + 1 + 1 + 1]? = some (.cells #[.map (some (W.heap.size + 1 + 1))] 66 (0, 0)) := by
  have := heap_alloc_new w3 (.cells #[.map (some (W.heap.size + 1 + 1))] 66)
  rw [z3] at this
  rw [hw4]; exact this
 have b5 : w5.heap[W.heap.size + 1 + 1 + 1 + 1]? = some (.cells #[.int .i64 ((2147483647 : Nat) : Int)] 3 (0, 0)) := by
  have := heap_alloc_new w4 (.cells #[.int .i64 2147483647] 3)
  rw [z4] at this
  rw [hw5]; exact this
 have b6 : w6.heap[W.heap.size + 1 + 1 + 1 + 1 + 1]? = some (.cells #[wkS (W.heap.size + 1 + 1 + 1 + 1) (W.heap.size + 1 + 1 + 1) (W.heap.size + 1) (W.heap.size + 1 + 1 + 1 + 1 + 1)] 67 (0, 0)) := by
  have := heap_alloc_new w5 (.cells #[wkS (W.heap.size + 1 + 1 + 1 + 1) (W.heap.size + 1 + 1 + 1) (W.heap.size + 1) (W.heap.size + 1 + 1 + 1 + 1 + 1)] 67)
  rw [z5] at this
  rw [hw6]; exact this
 have G : Gr (fun _ => False) W w6 := ((((g1.trans g2).trans g3).trans g4).trans g5).trans g6
 have B1 := ((((g2.trans g3).trans g4).trans g5).trans g6).keep b1 (fun e => e)
 have B2 := (((g3.trans g4).trans g5).trans g6).keep b2 (fun e => e)
 have B3 := b3.gr ((g4.trans g5).trans g6) (fun e => e)
 have B4 := (g5.trans g6).keep b4 (fun e => e)
 have B5 := g6.keep b5 (fun e => e)
 have hSk : Sk W.heap.size (W.heap.size + 1 + 1 + 1 + 1) (W.heap.size + 1 + 1 + 1) (W.heap.size + 1) (W.heap.size + 1 + 1 + 1 + 1 + 1) (W.heap.size + 1 + 1) (W.heap.size + 6) w6 2147483647 nl [] :=
  ⟨B5, B4, B2, b6, B3, Ns.nil _ _ (by omega), ⟨by omega, by omega, by omega, by omega, by omega, by omega⟩⟩
 have hcl := hw w6 la lc _ _ _ _ _ _ _ 1 _ _ (hrow.g0 G) hSk (by omega) (Nat.le_refl _) (by omega) (by simp; omega)
 obtain ⟨⟨m0, m1, m2, m3, m4⟩, _⟩ := five_cells B1
 have HW : Hid ((((((W.alloc (.cells #[.int .i64 17, .string s, .int .i64 n, .slice ba b.length bc, .slice la l.length lc] 25)).alloc (.cells #[.slice none 0 0] 39)).alloc (.map #[] 0)).alloc (.cells #[.map (some (W.heap.size + 1 + 1))] 66)).alloc (.cells #[.int .i64 2147483647] 3)).alloc (.cells #[.func (.func 36) #[] #[.pointer (some ⟨W.heap.size + 1 + 1 + 1 + 1, 0, none⟩), .pointer (some ⟨W.heap.size + 1 + 1 + 1, 0, none⟩), .pointer (some ⟨W.heap.size + 1, 0, none⟩), .pointer (some ⟨W.heap.size + 1 + 1 + 1 + 1 + 1, 0, none⟩)]] 67) = w6) := by
  show _ = _
  rw [hw6, hw5, hw4, hw3, hw2, hw1]
 have hmm : ∀ w, (Instr.makeMap 66 none).run Tryz.prog w = .ok (.map (some w.heap.size)) (w.alloc (.map #[] 0)) := fun _ => rfl
 replace hcl := Lib.hid hcl
 replace z6 := Lib.hid z6
 clear hw1 hw2 hw3 hw4 hw5 hw6 g1 g2 g3 g4 g5 g6 z1 z2 z3 z4 z5 b1 b2 b3 b4 b5 b6 B1 B2 B3 B4 B5 hSk hrow hw hs
 go_enter Tryz.func20, Tryz.ntmps20
 go_wp2_with fail
 rw [HW.out]
 refine hcl.out.mono ?_
 rintro e w7 ⟨rfl, v', hSk', g7⟩
 obtain ⟨x0, x1, x2⟩ := one_cell hSk'.nam
 obtain ⟨sa, sc, rfl⟩ := hSk'.row.sv
 have hz := z6.out
 go_wp2_with fail
 go_ret
 refine ⟨_, rfl, ?_, G.trans' g7 (fun k hk e => by rcases e with e | e | e | e <;> omega)⟩
 have hr := hSk'.row
 exact ⟨hr.len, ownsRow_base hr.row (by omega), by have := G.size; have := g7.size; omega⟩
end Go.Proofs.YtjedbfbolifjjaaGreatDoor

namespace Go.Proofs.YtjedbfbolifjjaaGreatDoor
open Go.RowKit Go.Maps
variable {W W' : World}
def overV : Tr → Bool
 | .mk k s n b l =>
  if k = 18 then decide (64 < (l.length : Int))
  else if k = 17 then decide (8 < (l.length : Int) - 1) || decide (64 < ((slotV (.mk k s n b l)).length : Int))
  else if k = 11 then decide (8 < (l.length : Int))
  else if k = 5 ∨ k = 6 then decide (256 < (l.length : Int))
  else false
set_option maxRecDepth 100000 in
theorem fld61 (s : ByteArray) (m : Int) (w : World) : (Instr.field 61 (hdv s m) 1).run Tryz.prog w = .ok (.int .i64 m) w := rfl
set_option maxRecDepth 100000 in
set_option maxHeartbeats 1600000 in
theorem over_c (N : Nat) : So N 47 #[] (fun _ => True) (fun T => Szs [T] ∧ (preL [T]).length ≤ 30000) overV := by
 refine ⟨ent_of Tryz.func47 (by kernel_rfl) rfl, fun _ _ _ _ => trivial, fun W g o T _ hs hT hg hN => ?_⟩
 obtain ⟨k, s, n, b, l⟩ := T
 obtain ⟨hs, hpl⟩ := hs
 have hl : l.length ≤ 4611686018427387904 := (hs (.mk k s n b l) (by rw [preL_cons]; simp)).2
 have hlI : (l.length : Int) ≤ 4611686018427387904 := by omega
 have hpl' : (preL l).length ≤ 30000 := by rw [preL_cons, preL_nil, List.append_nil, List.length_cons] at hpl; omega
 by_cases h18 : k = 18
 ·
  subst h18
  obtain ⟨ba, bc, la, lc, ⟨x0, x1, x2, x3, x4⟩, hrow, hgl⟩ := hT.parts
  show Calls Tryz.prog 47 #[ptr g o] W fun e w' => e = .returned (.bool (decide (64 < (l.length : Int)))) ∧ Gr (fun _ => False) W w'
  clear hrow hT hs hpl hpl' x1 x2 x3
  go_enter Tryz.func47, Tryz.ntmps47
  go_wp2_with fail
  go_ret
  exact ⟨by simp, Gr.refl _ _⟩
 by_cases h17 : k = 17
 ·
  subst h17
  have hh := Lib.hid (head_c N W g o _ s n b l hT hl)
  show Calls Tryz.prog 47 #[ptr g o] W fun e w' => e = .returned (.bool (decide (8 < (l.length : Int) - 1) || decide (64 < ((slotV (.mk 17 s n b l)).length : Int)))) ∧ Gr (fun _ => False) W w'
  have hsl : Hid (∀ w, Gr (fun _ => False) W w → ∃ v, (∀ j u, (cellsOf v)[j]? = some u → w.cell? ⟨g, o + j, none⟩ = some u) ∧ (∃ tk tt tn a1 n1 c1 a2 n2 c2, v = trv tk tt tn (.slice a1 n1 c1) (.slice a2 n2 c2)) ∧ Calls Tryz.prog 20 #[v] w fun e w' => ∃ v', e = .returned v' ∧ Ns w.heap.size w' v' (slotV (.mk 17 s n b l)) ∧ Gr (fun _ => False) w w') := fun w gw => by
   obtain ⟨v, hv, hc⟩ := hT.g0 gw hg
   have hz := gw.size
   exact ⟨v, hc, hv.agg, slots_c w 17 s n b l v (hv.turn (fun z hz' hl => ⟨by omega, rfl⟩)) hs hpl'⟩
  obtain ⟨ba, bc, la, lc, ⟨x0, x1, x2, x3, x4⟩, hrow, hgl⟩ := hT.parts
  have hfd := fun m w => fld61 s m w
  generalize slotV (.mk 17 s n b l) = sl at hsl ⊢
  clear hrow hT hs hpl hpl' x1 x2 x3
  cases d1 : decide (8 < (l.length : Int) - 1) with
  | true =>
   go_enter Tryz.func47, Tryz.ntmps47
   go_wp2_with fail
   refine hh.out.mono ?_
   rintro e w1 ⟨rfl, g1⟩
   go_wp2_with fail
   go_ret
   exact ⟨rfl, g1⟩
  | false =>
   go_enter Tryz.func47, Tryz.ntmps47
   go_wp2_with fail
   refine hh.out.mono ?_
   rintro e w1 ⟨rfl, g1⟩
   obtain ⟨v, hc, ⟨tk, tt, tn, a1, n1, c1, a2, n2, c2, rfl⟩, hcall⟩ := hsl.out w1 g1
   have k0 : w1.cell? ⟨g, o, none⟩ = _ := hc 0 _ rfl
   have k1 := hc 1 _ rfl
   have k2 := hc 2 _ rfl
   have k3 := hc 3 _ rfl
   have k4 := hc 4 _ rfl
   have hg1 : g < w1.heap.size := by have := g1.size; omega
   replace hcall := Lib.hid hcall
   clear hc
   go_wp2_with fail
   refine hcall.out.mono ?_
   rintro e w2 ⟨v', rfl, hN2, g2⟩
   obtain ⟨sa, sc, rfl⟩ := hN2.sv
   go_wp2_with fail
   go_ret
   exact ⟨by simp, g1.trans g2⟩
 by_cases h11 : k = 11
 ·
  subst h11
  obtain ⟨ba, bc, la, lc, ⟨x0, x1, x2, x3, x4⟩, hrow, hgl⟩ := hT.parts
  show Calls Tryz.prog 47 #[ptr g o] W fun e w' => e = .returned (.bool (decide (8 < (l.length : Int)))) ∧ Gr (fun _ => False) W w'
  clear hrow hT hs hpl hpl' x1 x2 x3
  go_enter Tryz.func47, Tryz.ntmps47
  go_wp2_with fail
  go_ret
  exact ⟨by simp, Gr.refl _ _⟩
 by_cases h5 : k = 5
 ·
  subst h5
  obtain ⟨ba, bc, la, lc, ⟨x0, x1, x2, x3, x4⟩, hrow, hgl⟩ := hT.parts
  show Calls Tryz.prog 47 #[ptr g o] W fun e w' => e = .returned (.bool (decide (256 < (l.length : Int)))) ∧ Gr (fun _ => False) W w'
  clear hrow hT hs hpl hpl' x1 x2 x3
  go_enter Tryz.func47, Tryz.ntmps47
  go_wp2_with fail
  go_ret
  exact ⟨by simp, Gr.refl _ _⟩
 by_cases h6 : k = 6
 ·
  subst h6
  obtain ⟨ba, bc, la, lc, ⟨x0, x1, x2, x3, x4⟩, hrow, hgl⟩ := hT.parts
  show Calls Tryz.prog 47 #[ptr g o] W fun e w' => e = .returned (.bool (decide (256 < (l.length : Int)))) ∧ Gr (fun _ => False) W w'
  clear hrow hT hs hpl hpl' x1 x2 x3
  go_enter Tryz.func47, Tryz.ntmps47
  go_wp2_with fail
  go_ret
  exact ⟨by simp, Gr.refl _ _⟩
 obtain ⟨ba, bc, la, lc, ⟨x0, x1, x2, x3, x4⟩, hrow, hgl⟩ := hT.parts
 have e : overV (.mk k s n b l) = false := by
  show (if k = 18 then _ else _) = false
  rw [if_neg h18, if_neg h17, if_neg h11, if_neg (by omega)]
 rw [e]
 have q1 : (k == 18) = false := by simpa using h18
 have q2 : (k == 17) = false := by simpa using h17
 have q3 : (k == 11) = false := by simpa using h11
 have q4 : (k == 5) = false := by simpa using h5
 have q5 : (k == 6) = false := by simpa using h6
 clear hrow hT hs hpl hpl' x1 x2 x3 e
 go_enter Tryz.func47, Tryz.ntmps47
 go_wp2_with fail
 go_ret
 exact ⟨rfl, Gr.refl _ _⟩
end Go.Proofs.YtjedbfbolifjjaaGreatDoor
