/-
  A copy of a set of names: maps.Clone.
  Questions that keep a state, asked of all elements: every.
  Names that are not bound, asked of all elements: lacksAny, over what lacks does of each.
  Names that are not bound: lacks of a name, of an equation, of a clause, of what only has parts.
-/
import Derived.Test.YtjedbfbolifjjaaGreatDoorKB
import Derived.Test.YtjedbfbolifjjaaGreatDoorA
import Derived.MapKept
import Derived.Test.YtjedbfbolifjjaaGreatDoorKR
set_option linter.unusedVariables false
set_option linter.unusedSimpArgs false
namespace Go.Proofs.YtjedbfbolifjjaaGreatDoor
open Go.RowKit Go.Maps Go.WideMaps
variable {W W' : World}
theorem cl_run (w : World) (t : TypeId) (r : Nat) (es : Array MapEntry) (clock : Nat) (hb : w.heap[r]? = some (.map es clock)) : (Extern.MapsClone.clone #[.iface t (.map (some r))]).run Tryz.prog w = .ok (.iface t (.map (some w.heap.size))) (w.alloc (.map es clock)) := by
 show Sem.run Tryz.prog (getObj r >>= _) w = _
 simp [Go.MapKept.run_getObj_map hb, Result.andThen]
theorem cf114 (w : World) (t : TypeId) (r : Nat) (es : Array MapEntry) (clock : Nat) (hb : w.heap[r]? = some (.map es clock)) : (callFunc 114 #[.iface t (.map (some r))]).run Tryz.prog w = .ok (Next.value (.iface t (.map (some w.heap.size)))) (w.alloc (.map es clock)) := by
 rw [run_callFunc_extern (e := Extern.MapsClone.clone) Tryz.func114 (by kernel_rfl) (by kernel_rfl) (by kernel_rfl) (by kernel_rfl), cl_run w t r es clock hb]
 rfl
theorem ta66 (w : World) (r : Nat) : (Instr.typeAssert (.iface 66 (.map (some r))) 20 66 false).run Tryz.prog w = .ok (.map (some r)) w := by kernel_rfl
theorem Bd.obj {mb : Nat} {L : List ByteArray} (h : Bd W mb L) : ∃ es clock, W.heap[mb]? = some (.map es clock) ∧ Bd (W.alloc (.map es clock)) W.heap.size L := by
 obtain ⟨D, ⟨es, clock, h1, h2⟩, h3⟩ := h
 exact ⟨es, clock, h1, D, ⟨es, clock, heap_alloc_new W _, h2⟩, h3⟩
set_option maxRecDepth 100000 in
set_option maxHeartbeats 1600000 in
theorem mclone_c (W : World) (mb : Nat) (L : List ByteArray) (hM : Bd W mb L) : Calls Tryz.prog 97 #[.map (some mb)] W fun e w' => e = .returned (.map (some W.heap.size)) ∧ Bd w' W.heap.size L ∧ Gr (fun _ => False) W w' := by
 obtain ⟨es, clock, h1, h2⟩ := hM.obj
 have hx := cf114 W 66 mb es clock h1
 have gA := Gr.alloc W (.map es clock) (fun _ => False)
 have hnn : (binOp .eql 66 (.map (some mb)) (.map none)).run Tryz.prog W = .ok (.bool false) W := by rfl
 have hta := fun w r => ta66 w r
 replace h2 := Lib.hid h2
 clear hM h1
 go_enter Tryz.func97, Tryz.ntmps97
 go_wp2_with fail
 go_ret
 exact ⟨rfl, h2.out, gA⟩
end Go.Proofs.YtjedbfbolifjjaaGreatDoor

namespace Go.Proofs.YtjedbfbolifjjaaGreatDoor
open Go.RowKit Go.Maps
variable {W W' : World} {α : Type}
/-- A question whose yes is 'go on'. -/
def SoE (N n : Nat) (caps : Array Value) (S : Nat → Prop) (In : α → World → Prop) (Q : α → Tr → Prop) (step : α → Tr → Bool × α) : Prop :=
 Ent n ∧ (∀ k, k < N → ¬ S k) ∧ ∀ (W : World) (s : α) (g o : Nat) (T : Tr), In s W → Q s T → TAtG N W g o T → g < N → N ≤ W.heap.size → Calls Tryz.prog n (#[ptr g o] ++ caps) W fun e w' => e = .returned (.bool (!(step s T).1)) ∧ ((step s T).1 = false → In (step s T).2 w') ∧ Gr S W w'
set_option maxRecDepth 100000 in
set_option maxHeartbeats 1600000 in
theorem everys_c {N n : Nat} {caps : Array Value} {S : Nat → Prop} {In : α → World → Prop} {Q : α → Tr → Prop} {step : α → Tr → Bool × α} (hSo : SoE N n caps S In Q step) (l : List Tr) (hl : l.length ≤ 4611686018427387904) (W : World) (a : α) (la : Option Addr) (lc : Nat) (hI : In a W) (hok : okA Q step a l) (hrow : RowAt N W la l) (hN : N ≤ W.heap.size) :
 Calls Tryz.prog 89 #[.slice la l.length lc, .func (.func n) #[] caps] W fun e w' => e = .returned (.bool (!(goA step a l).1)) ∧ ((goA step a l).1 = false → In (goA step a l).2 w') ∧ Gr S W w' := by
 obtain ⟨hE, hSN, hcall⟩ := hSo
 have hlI : (l.length : Int) ≤ 4611686018427387904 := by omega
 have hst : Hid (∀ (i : Nat) (U : Tr), l[i]? = some U → (goA step a (l.take i)).1 = false → goA step a (l.take (i + 1)) = step (goA step a (l.take i)).2 U) := fun i U hU h0 => by
  show _ = _
  rw [List.take_add_one, hU, goA_app, h0]
  show (if (step (goA step a (l.take i)).2 U).1 = true then (true, (step (goA step a (l.take i)).2 U).2) else (false, (step (goA step a (l.take i)).2 U).2)) = _
  cases h : step (goA step a (l.take i)).2 U with
  | mk b s => cases b <;> rfl
 have hsp : Hid (∀ i, goA step a l = if (goA step a (l.take i)).1 then (true, (goA step a (l.take i)).2) else goA step (goA step a (l.take i)).2 (l.drop i)) := fun i => by
  show _ = _
  rw [← goA_app, List.take_append_drop]
 have hoq : Hid (∀ (i : Nat) (U : Tr), l[i]? = some U → (goA step a (l.take i)).1 = false → Q (goA step a (l.take i)).2 U) := fun i U hU h0 => by
  have e : l = l.take i ++ (U :: l.drop (i + 1)) := by
   have h1 := (List.getElem?_eq_some_iff.1 hU)
   obtain ⟨h2, rfl⟩ := h1
   rw [List.getElem_cons_drop, List.take_append_drop]
  have h1 := hok
  rw [e] at h1
  exact ((okA_app Q step _ _ _ h1).2 h0).1
 replace hrow := Lib.hid hrow
 replace hSN := Lib.hid hSN
 replace hI := Lib.hid hI
 replace hcall := Lib.hid hcall
 clear hok
 go_enter Tryz.func89, Tryz.ntmps89
 go_wp2_with fail
 go_loopw [8] (fun u wr => ∃ i : Nat, i ≤ l.length ∧ u = .int .i64 (i : Int) ∧ Hid ((goA step a (l.take i)).1 = false) ∧ Hid (In (goA step a (l.take i)).2 wr) ∧ Gr S W wr) (fun u _ => l.length - (intOf u).toNat)
 case atStart => exact ⟨0, Nat.zero_le _, rfl, by show _ = _; rw [List.take_zero]; rfl, by show In _ _; rw [List.take_zero]; exact hI.out, Gr.refl _ _⟩
 case round =>
  obtain ⟨i, hi, rfl, hno, hIi, hG⟩ := hrel
  by_cases hlt : i < l.length
  ·
   have hd : decide ((i : Int) < (l.length : Int)) = true := by simp; omega
   have hTi : l[i]? = some l[i] := List.getElem?_eq_getElem hlt
   obtain ⟨g', o', rfl, hg', hTA⟩ := hrow.out i _ hTi
   have hst' := hst.out i _ hTi hno.out
   have hci := hcall.out wr _ g' (o' + i * 5) l[i] hIi.out (hoq.out i _ hTi hno.out) (hTA.gr hG hSN.out hg') hg' (Nat.le_trans hN hG.size)
   rw [← hst'] at hci
   have hsp' := Lib.hid (hsp.out (i + 1))
   have hsz := hG.size
   have hgw' : g' < wr.heap.size := by
    obtain ⟨v, h1, h2⟩ := hTA.gr hG hSN.out hg'
    obtain ⟨tk, tt, tn, a1, n1, c1, a2, n2, c2, rfl⟩ := h1.agg
    exact World.block_lt_of_cell? _ _ (h2 0 _ rfl)
   cases hU : goA step a (l.take (i + 1)) with
   | mk bu a2 =>
   rw [hU] at hci
   replace hci := Lib.hid hci
   replace hU := Lib.hid hU
   clear hTA hTi hst'
   cases bu with
   | true =>
    go_wp2_with fail
    rw [hE, Oper.upon_enter]
    refine hci.out.mono ?_
    rintro e w4 ⟨rfl, hI4, g4⟩
    clear hI4
    go_wp2_with fail
    go_ret
    have e2 := hsp'.out
    rw [hU.out] at e2
    refine ⟨?_, ?_, hG.trans g4⟩
    · rw [e2]; rfl
    · rw [e2]; intro h; cases h
   | false =>
    go_wp2_with fail
    rw [hE, Oper.upon_enter]
    refine hci.out.mono ?_
    rintro e w4 ⟨rfl, hI4, g4⟩
    replace hI4 := Lib.hid hI4
    go_wp2_with fail
    exact ⟨⟨i + 1, hlt, by go_num, by show _ = _; rw [hU.out], by show In _ _; rw [hU.out]; exact hI4.out (by first | rfl | trivial), hG.trans g4⟩, by simp [intOf]; omega⟩
  ·
   have hd : decide ((i : Int) < (l.length : Int)) = false := by simp; omega
   obtain rfl : i = l.length := by omega
   go_wp2_with fail
   go_ret
   have h1 := hno.out
   have h2 := hIi.out
   rw [List.take_length] at h1 h2
   exact ⟨by rw [h1]; rfl, fun _ => h2, hG⟩
end Go.Proofs.YtjedbfbolifjjaaGreatDoor

namespace Go.Proofs.YtjedbfbolifjjaaGreatDoor
open Go.RowKit Go.Maps
variable {W W' : World}
abbrev Stp := List ByteArray → Tr → Bool × List ByteArray
/-- What lacks does of a tree. -/
def LkOk (N : Nat) (step : Stp) (T : Tr) : Prop := ∀ (W : World) (mb g o : Nat) (L : List ByteArray), Bd W mb L → N ≤ mb → L.length + (preL [T]).length ≤ 1000000 → TAtG N W g o T → g < N → N ≤ W.heap.size →
 Calls Tryz.prog 73 #[.map (some mb), ptr g o] W fun e w' => e = .returned (.bool (step L T).1) ∧ ((step L T).1 = false → Bd w' mb (step L T).2) ∧ Gr (fun k => k = mb) W w'
def lQ (l : List Tr) (L : List ByteArray) (T : Tr) : Prop := T ∈ l ∧ L.length + (preL [T]).length ≤ 1000000
theorem lq_ok (step : Stp) (hg : ∀ L T, (step L T).2.length ≤ L.length + (preL [T]).length) (l0 : List Tr) : ∀ (l : List Tr) (L : List ByteArray), (∀ T ∈ l, T ∈ l0) → L.length + (preL l).length ≤ 1000000 → okA (lQ l0) step L l := by
 intro l
 induction l with
 | nil => intro L _ _; trivial
 | cons T l ih =>
  intro L hm hl
  have e : preL (T :: l) = preL [T] ++ preL l := preL_app [T] l
  rw [e, List.length_append] at hl
  have := hg L T
  exact ⟨⟨hm T (by simp), by omega⟩, fun _ => ih _ (fun U hU => hm U (by simp [hU])) (by omega)⟩
set_option maxRecDepth 100000 in
set_option maxHeartbeats 1600000 in
theorem lk_so (N : Nat) (step : Stp) (l : List Tr) (ih : ∀ T ∈ l, LkOk N step T) (u mb : Nat) (hm : N ≤ mb) (hu : u ≠ mb) : SoE N 115 #[ptr u 0] (fun k => k = mb) (fun L w => BdAt u mb L w) (lQ l) step := by
 refine ⟨ent_of Tryz.func115 (by kernel_rfl) rfl, fun k hk e => by omega, fun W L g o T hI hQ hT hg hN => ?_⟩
 obtain ⟨xu, hB⟩ := hI
 have hul := World.block_lt_of_cell? _ _ xu
 dsimp only at hul
 have hc := ih T hQ.1 W mb g o L hB hm hQ.2 hT hg hN
 cases hr : step L T with
 | mk b L' =>
 rw [hr] at hc
 replace hc := Lib.hid hc
 clear hB hT hQ
 cases b
 all_goals
  go_enter Tryz.func115, Tryz.ntmps115
  go_wp2_with fail
  refine hc.out.mono ?_
  rintro e w1 ⟨rfl, h1, g1⟩
  replace h1 := Lib.hid h1
  go_wp2_with fail
  go_ret
 · exact ⟨rfl, fun _ => ⟨cell_gr xu g1 hu, h1.out (by first | rfl | trivial)⟩, g1⟩
 · exact ⟨rfl, fun h => by first | cases h | simp at h, g1⟩
set_option maxRecDepth 100000 in
set_option maxHeartbeats 1600000 in
theorem lkAny_c (N : Nat) (step : Stp) (hg : ∀ L T, (step L T).2.length ≤ L.length + (preL [T]).length) (l : List Tr) (hl : l.length ≤ 4611686018427387904) (ih : ∀ T ∈ l, LkOk N step T) (W : World) (mb : Nat) (la : Option Addr) (lc : Nat) (L : List ByteArray) (hB : Bd W mb L) (hm : N ≤ mb) (hn : L.length + (preL l).length ≤ 1000000) (hrow : RowAt N W la l) (hN : N ≤ W.heap.size) :
 Calls Tryz.prog 99 #[.map (some mb), .slice la l.length lc] W fun e w' => e = .returned (.bool (goA step L l).1) ∧ ((goA step L l).1 = false → Bd w' mb (goA step L l).2) ∧ Gr (fun k => k = mb) W w' := by
 have hml := hB.lt
 have gA := Gr.alloc W (.cells #[.map (some mb)] 66) (fun _ => False)
 have hbx := one_cell (heap_alloc_new W (.cells #[.map (some mb)] 66))
 have hc := everys_c (lk_so N step l ih W.heap.size mb hm (by omega)) l hl _ L la lc ⟨hbx.1, hB.gr gA (fun e => e)⟩ (lq_ok step hg l l L (fun _ h => h) hn) (hrow.g0 gA) (by have := gA.size; omega)
 cases hr : goA step L l with
 | mk b L' =>
 rw [hr] at hc
 replace hc := Lib.hid hc
 clear hB hrow hbx ih hn
 cases b
 all_goals
  go_enter Tryz.func99, Tryz.ntmps99
  go_wp2_with fail
  refine hc.out.mono ?_
  rintro e w1 ⟨rfl, h1, g1⟩
  replace h1 := Lib.hid h1
  have gg : Gr (fun k => k = mb) W w1 := (gA.any _).trans g1
  go_wp2_with fail
  go_ret
 · exact ⟨rfl, fun _ => (h1.out (by first | rfl | trivial)).2, gg⟩
 · exact ⟨rfl, fun h => by first | cases h | simp at h, gg⟩
end Go.Proofs.YtjedbfbolifjjaaGreatDoor

namespace Go.Proofs.YtjedbfbolifjjaaGreatDoor
open Go.RowKit Go.Maps
variable {W W' : World}
/-- What lacks answers, and what is bound behind it. -/
def LkIs (N : Nat) (T : Tr) (L : List ByteArray) (r : Bool × List ByteArray) : Prop := ∀ (W : World) (mb g o : Nat), Bd W mb L → N ≤ mb → TAtG N W g o T → g < N → N ≤ W.heap.size →
 Calls Tryz.prog 73 #[.map (some mb), ptr g o] W fun e w' => e = .returned (.bool r.1) ∧ (r.1 = false → Bd w' mb r.2) ∧ Gr (fun k => k = mb) W w'
set_option maxRecDepth 100000 in
theorem set_look {W : World} {mb : Nat} {L : List ByteArray} (hM : Bd W mb L) (s : ByteArray) (hs : s.size ≤ 140737488351232) : (Instr.lookup 66 (.map (some mb)) (.string s) true).run Tryz.prog W = .ok (.tuple #[.agg #[], .bool (inL L s)]) W := by
 have hlook := Mo.look hM Tryz.underlying66 (zero87 W) s hs
 have hIs : (setOf L s).isSome = inL L s := by unfold setOf; cases h : inL L s <;> simp
 have hG : (setOf L s).getD (.agg #[]) = .agg #[] := by unfold setOf; cases h : inL L s <;> simp
 rw [hIs, hG] at hlook
 exact hlook
set_option maxRecDepth 100000 in
set_option maxHeartbeats 1600000 in
theorem lk_name (N : Nat) (s : ByteArray) (n : Int) (b : List Int) (l : List Tr) (L : List ByteArray) (hs : s.size ≤ 140737488351232) : LkIs N (.mk 3 s n b l) L (!inL L s, L) := by
 intro W mb g o hB hm hT hg hN
 obtain ⟨ba, bc, la, lc, ⟨x0, x1, x2, x3, x4⟩, hrow, hgl⟩ := hT.parts
 have hlk := set_look hB s hs
 have hl := hB.lt
 have gA := Gr.alloc W (.cells #[] 87) (fun k => k = mb)
 have hB2 := Lib.hid (hB.gr (Gr.alloc W (.cells #[] 87) (fun _ => False)) (fun e => e))
 show Calls Tryz.prog 73 #[.map (some mb), ptr g o] W fun e w' => e = .returned (.bool (!inL L s)) ∧ ((!inL L s) = false → Bd w' mb L) ∧ Gr (fun k => k = mb) W w'
 generalize inL L s = q at hlk ⊢
 replace hB := Lib.hid hB
 clear hrow hT x2 x3 x4
 go_enter Tryz.func73, Tryz.ntmps73
 go_wp2_with fail
 go_ret
 exact ⟨rfl, fun _ => hB2.out, gA⟩
set_option maxRecDepth 100000 in
set_option maxHeartbeats 1600000 in
theorem lk_equal (N : Nat) (s : ByteArray) (n : Int) (b : List Int) (P X : Tr) (r : List Tr) (L : List ByteArray) (q : Bool × List ByteArray) (hr : (r.length : Int) ≤ 4000) (hX : LkIs N X L q) (hs : Szs [P]) (hn : q.2.length + (preL [P]).length ≤ 1000000) : LkIs N (.mk 9 s n b (P :: X :: r)) L (q.1, putT q.2 P) := by
 intro W mb g o hB hm hT hg hN
 obtain ⟨ba, bc, la, lc, ⟨x0, x1, x2, x3, x4⟩, hrow, hgl⟩ := hT.parts
 obtain ⟨g', o', rfl, hg', hP⟩ := hrow 0 P rfl
 obtain ⟨g2', o2', e2, _, hX2⟩ := hrow 1 X rfl
 cases e2
 rw [Nat.zero_mul, Nat.add_zero] at hP
 rw [Nat.one_mul] at hX2
 have hc := Lib.hid (hX W mb g' (o' + 5) hB hm hX2 hg' hN)
 have hput : Hid (∀ w, Gr (fun k => k = mb) W w → Bd w mb q.2 → Calls Tryz.prog 72 #[.map (some mb), ptr g' o'] w fun e w' => e = .returned (.tuple #[]) ∧ Bd w' mb (putT q.2 P) ∧ Gr (fun k => k = mb) w w') := fun w gw hb => putAll_c N P hs w mb g' o' q.2 hb hm (hP.gr gw (fun k hk e => by omega) hg') hg' hn
 have hgm : g ≠ mb := by omega
 rw [show (P :: X :: r).length = r.length + 2 from rfl] at x4
 have x4' : W.cell? ⟨g, o + 4, none⟩ = some (.slice (some ⟨g', o', none⟩) (r.length + 2) lc) := x4
 have hgl' : g' < W.heap.size := by
  obtain ⟨v, h1, h2⟩ := hX2
  obtain ⟨tk, tt, tn, a1, n1, c1, a2, n2, c2, rfl⟩ := h1.agg
  exact World.block_lt_of_cell? _ _ (h2 0 _ rfl)
 obtain ⟨q1, q2⟩ := q
 dsimp only at hc hput ⊢
 replace hB := Lib.hid hB
 clear hrow hT x1 x2 x3 x4 hP hX2 hX hn
 cases q1 with
 | true =>
  go_enter Tryz.func73, Tryz.ntmps73
  go_wp2_with fail
  refine hc.out.mono ?_
  rintro e w1 ⟨rfl, h1, g1⟩
  clear h1
  go_wp2_with fail
  go_ret
  exact ⟨rfl, fun h => (by first | cases h | simp at h), g1⟩
 | false =>
  go_enter Tryz.func73, Tryz.ntmps73
  go_wp2_with fail
  refine hc.out.mono ?_
  rintro e w1 ⟨rfl, h1, g1⟩
  have hp := Lib.hid (hput.out w1 g1 (h1 (by first | rfl | trivial)))
  have y4 := cell_gr x4' g1 hgm
  have hs1 := g1.size
  have hgw : g < w1.heap.size := by omega
  have hgw' : g' < w1.heap.size := by omega
  clear h1
  go_wp2_with fail
  refine hp.out.mono ?_
  rintro e w2 ⟨rfl, h2, g2⟩
  replace h2 := Lib.hid h2
  go_wp2_with fail
  go_ret
  exact ⟨rfl, fun _ => h2.out, g1.trans g2⟩
set_option maxRecDepth 100000 in
set_option maxHeartbeats 1600000 in
theorem lk_clause (N : Nat) (s : ByteArray) (n : Int) (b : List Int) (P X : Tr) (r : List Tr) (L : List ByteArray) (q : Bool × List ByteArray) (hr : (r.length : Int) ≤ 4000) (hX : LkIs N X (putT L P) q) (hs : Szs [P]) (hn : L.length + (preL [P]).length ≤ 1000000) : LkIs N (.mk 15 s n b (P :: X :: r)) L (q.1, L) := by
 intro W mb g o hB hm hT hg hN
 obtain ⟨ba, bc, la, lc, ⟨x0, x1, x2, x3, x4⟩, hrow, hgl⟩ := hT.parts
 obtain ⟨g', o', rfl, hg', hP⟩ := hrow 0 P rfl
 obtain ⟨g2', o2', e2, _, hX2⟩ := hrow 1 X rfl
 cases e2
 rw [Nat.zero_mul, Nat.add_zero] at hP
 rw [Nat.one_mul] at hX2
 have hcl := Lib.hid (mclone_c W mb L hB)
 obtain ⟨nb, hnb⟩ : ∃ nb, W.heap.size = nb := ⟨_, rfl⟩
 rw [hnb] at hcl
 have hput : Hid (∀ w, Gr (fun _ => False) W w → Bd w nb L → Calls Tryz.prog 72 #[.map (some nb), ptr g' o'] w fun e w' => e = .returned (.tuple #[]) ∧ Bd w' nb (putT L P) ∧ Gr (fun k => k = nb) w w') := fun w gw hb => putAll_c N P hs w nb g' o' L hb (by omega) (hP.g0 gw hg') hg' hn
 have hlk : Hid (∀ w, Gr (fun _ => False) W w → Bd w nb (putT L P) → Calls Tryz.prog 73 #[.map (some nb), ptr g' (o' + 5)] w fun e w' => e = .returned (.bool q.1) ∧ (q.1 = false → Bd w' nb q.2) ∧ Gr (fun k => k = nb) w w') := fun w gw hb => hX w nb g' (o' + 5) hb (by omega) (hX2.g0 gw hg') hg' (by have := gw.size; omega)
 rw [show (P :: X :: r).length = r.length + 2 from rfl] at x4
 have x4' : W.cell? ⟨g, o + 4, none⟩ = some (.slice (some ⟨g', o', none⟩) (r.length + 2) lc) := x4
 have hgl' : g' < W.heap.size := by
  obtain ⟨v, h1, h2⟩ := hX2
  obtain ⟨tk, tt, tn, a1, n1, c1, a2, n2, c2, rfl⟩ := h1.agg
  exact World.block_lt_of_cell? _ _ (h2 0 _ rfl)
 have hml := hB.lt
 obtain ⟨q1, q2⟩ := q
 dsimp only at hlk ⊢
 replace hB := Lib.hid hB
 clear hrow hT x1 x2 x3 x4 hP hX2 hX hn
 go_enter Tryz.func73, Tryz.ntmps73
 go_wp2_with fail
 refine hcl.out.mono ?_
 rintro e w1 ⟨rfl, h1, g1⟩
 have hp := Lib.hid (hput.out w1 g1 h1)
 have y4 := cell_gr x4' g1 (fun e => e)
 have hs1 := g1.size
 have hgw : g < w1.heap.size := by omega
 have hgw' : g' < w1.heap.size := by omega
 clear h1
 go_wp2_with fail
 refine hp.out.mono ?_
 rintro e w2 ⟨rfl, h2, g2⟩
 have G2 : Gr (fun _ => False) W w2 := g1.trans' g2 (fun k hk e => absurd e (by omega))
 have hl := Lib.hid (hlk.out w2 G2 h2)
 have z4 := cell_gr x4' G2 (fun e => e)
 have hs2 := G2.size
 have hgz : g < w2.heap.size := by omega
 have hgz' : g' < w2.heap.size := by omega
 clear h2
 go_wp2_with fail
 refine hl.out.mono ?_
 rintro e w3 ⟨rfl, h3, g3⟩
 have G3 : Gr (fun _ => False) W w3 := G2.trans' g3 (fun k hk e => absurd e (by omega))
 clear h3
 go_wp2_with fail
 go_ret
 exact ⟨rfl, fun _ => hB.out.gr G3 (fun e => e), G3.any _⟩
set_option maxRecDepth 100000 in
set_option maxHeartbeats 1600000 in
theorem lk_parts (N : Nat) (step : Stp) (hgr : ∀ L T, (step L T).2.length ≤ L.length + (preL [T]).length) (k : Int) (s : ByteArray) (n : Int) (b : List Int) (l : List Tr) (L : List ByteArray) (h3 : k ≠ 3) (h9 : k ≠ 9) (h15 : k ≠ 15) (h13 : k ≠ 13) (hl : l.length ≤ 4611686018427387904) (ih : ∀ T ∈ l, LkOk N step T) (hn : L.length + (preL l).length ≤ 1000000) : LkIs N (.mk k s n b l) L (goA step L l) := by
 intro W mb g o hB hm hT hg hN
 obtain ⟨ba, bc, la, lc, ⟨x0, x1, x2, x3, x4⟩, hrow, hgl⟩ := hT.parts
 have hc := Lib.hid (lkAny_c N step hgr l hl ih W mb la lc L hB hm hn hrow hN)
 have q1 : (k == 3) = false := by simpa using h3
 have q2 : (k == 9) = false := by simpa using h9
 have q3 : (k == 15) = false := by simpa using h15
 have q4 : (k == 13) = false := by simpa using h13
 clear hrow hT x1 x2 x3 hB ih hgr hn
 generalize goA step L l = r at hc ⊢
 obtain ⟨r1, r2⟩ := r
 dsimp only at hc ⊢
 go_enter Tryz.func73, Tryz.ntmps73
 go_wp2_with fail
 refine hc.out.mono ?_
 rintro e w1 ⟨rfl, h1, g1⟩
 replace h1 := Lib.hid h1
 go_wp2_with fail
 go_ret
 exact ⟨rfl, h1.out, g1⟩
end Go.Proofs.YtjedbfbolifjjaaGreatDoor
