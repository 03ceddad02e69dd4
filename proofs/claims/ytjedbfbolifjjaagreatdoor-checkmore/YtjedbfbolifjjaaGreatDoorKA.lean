/-
  Parts of a tree by their places; a question asked of all parts (anyPart), of all elements (every).
  Which parts are as they ought to be: fields, kinds of the parts within.
-/
import Derived.Test.YtjedbfbolifjjaaGreatDoorJA
import Derived.Test.YtjedbfbolifjjaaGreatDoorGQ
set_option linter.unusedVariables false
set_option linter.unusedSimpArgs false
namespace Go.Proofs.YtjedbfbolifjjaaGreatDoor
open Go.RowKit Go.Maps
variable {W W' : World}
/-- A tree in its five cells. -/
def TAtG (N : Nat) (W : World) (g o : Nat) (T : Tr) : Prop := ∃ v, RepG (fun z => z < N) W T v ∧ ∀ j u, (cellsOf v)[j]? = some u → W.cell? ⟨g, o + j, none⟩ = some u
theorem TAtG.gr {N g o : Nat} {T : Tr} {S : Nat → Prop} (h : TAtG N W g o T) (gr : Gr S W W') (hs : ∀ k, k < N → ¬ S k) (hg : g < N) : TAtG N W' g o T := by
 obtain ⟨v, h1, h2⟩ := h
 exact ⟨v, h1.turn (fun z hz hl => ⟨hz, gr.block z hl (hs z hz)⟩), fun j u hj => cell_gr (h2 j u hj) gr (hs g hg)⟩
theorem TAtG.g0 {N g o : Nat} {T : Tr} (h : TAtG N W g o T) (gr : Gr (fun _ => False) W W') (hg : g < N) : TAtG N W' g o T := h.gr gr (fun _ _ e => e) hg
/-- A row of trees, by their places. -/
def RowAt (N : Nat) (W : World) (la : Option Addr) (l : List Tr) : Prop := ∀ i T, l[i]? = some T → ∃ g o, la = some ⟨g, o, none⟩ ∧ g < N ∧ TAtG N W g (o + i * 5) T
theorem RowAt.g0 {N : Nat} {la : Option Addr} {l : List Tr} (h : RowAt N W la l) (gr : Gr (fun _ => False) W W') : RowAt N W' la l := fun i T hi => by
 obtain ⟨g, o, h1, h2, h3⟩ := h i T hi
 exact ⟨g, o, h1, h2, h3.g0 gr h2⟩
/-- What a tree at its place is. -/
theorem TAtG.parts {N g o : Nat} {k : Int} {s : ByteArray} {n : Int} {b : List Int} {l : List Tr} (h : TAtG N W g o (.mk k s n b l)) : ∃ ba bc la lc,
 (W.cell? ⟨g, o, none⟩ = some (.int .i64 k) ∧ W.cell? ⟨g, o + 1, none⟩ = some (.string s) ∧ W.cell? ⟨g, o + 2, none⟩ = some (.int .i64 n) ∧ W.cell? ⟨g, o + 3, none⟩ = some (.slice ba b.length bc) ∧ W.cell? ⟨g, o + 4, none⟩ = some (.slice la l.length lc)) ∧ RowAt N W la l ∧ g < W.heap.size := by
 obtain ⟨v, h1, h2⟩ := h
 obtain ⟨ba, bc, la, lc, rfl, hk⟩ := h1.parts
 refine ⟨ba, bc, la, lc, ⟨h2 0 _ rfl, h2 1 _ rfl, h2 2 _ rfl, h2 3 _ rfl, h2 4 _ rfl⟩, fun i T hi => ?_, World.block_lt_of_cell? _ _ (h2 0 _ rfl)⟩
 obtain ⟨g', o', v', e, hl, hA, hR, hc⟩ := hk i T hi
 exact ⟨g', o', e, hA, v', hR, hc⟩
theorem TAtG.cap {N g o : Nat} {T : Tr} {la : Option Addr} {m lc : Nat} (h : TAtG N W g o T) (x4 : W.cell? ⟨g, o + 4, none⟩ = some (.slice la m lc)) : m ≤ lc := by
 obtain ⟨v, h1, h2⟩ := h
 obtain ⟨tk, tt, tn, a1, n1, c1, a2, n2, c2, rfl⟩ := h1.agg
 have e := (h2 4 _ rfl).symm.trans x4
 cases e
 obtain ⟨k, s, n, b, l⟩ := T
 exact h1.cap
/-- A question, as a function value of the number n with what it has caught. -/
def So (N n : Nat) (caps : Array Value) (I : World → Prop) (Q : Tr → Prop) (P : Tr → Bool) : Prop :=
 Ent n ∧ (∀ W W', I W → Gr (fun _ => False) W W' → I W') ∧ ∀ (W : World) (g o : Nat) (T : Tr), I W → Q T → TAtG N W g o T → g < N → N ≤ W.heap.size → Calls Tryz.prog n (#[ptr g o] ++ caps) W fun e w' => e = .returned (.bool (P T)) ∧ Gr (fun _ => False) W w'
def AnyOk (N n : Nat) (caps : Array Value) (I : World → Prop) (P : Tr → Bool) (T : Tr) : Prop := ∀ (W : World) (g o : Nat), I W → TAtG N W g o T → g < N → N ≤ W.heap.size →
 Calls Tryz.prog 42 #[ptr g o, .func (.func n) #[] caps] W fun e w' => e = .returned (.bool ((preL [T]).any P)) ∧ Gr (fun _ => False) W w'
set_option maxRecDepth 100000 in
set_option maxHeartbeats 1600000 in
theorem any_node {N n : Nat} {caps : Array Value} {I : World → Prop} {Q : Tr → Prop} {P : Tr → Bool} (hSo : So N n caps I Q P) (k : Int) (s : ByteArray) (m : Int) (b : List Int) (l : List Tr) (hl : l.length ≤ 4611686018427387904) (hQ : Q (.mk k s m b l)) (ih : ∀ T ∈ l, AnyOk N n caps I P T) : AnyOk N n caps I P (.mk k s m b l) := by
 intro W g o hI hT hg hN
 obtain ⟨ba, bc, la, lc, ⟨x0, x1, x2, x3, x4⟩, hrow, hgl⟩ := hT.parts
 obtain ⟨hE, hIs, hcall⟩ := hSo
 have hc := hcall W g o _ hI hQ hT hg hN
 have hlI : (l.length : Int) ≤ 4611686018427387904 := by omega
 have e0 : (preL [Tr.mk k s m b l]).any P = (P (.mk k s m b l) || (preL l).any P) := by rw [preL_cons, preL_nil, List.append_nil, List.any_cons]
 rw [e0]
 clear hcall e0
 replace hc := Lib.hid hc
 cases hP : P (.mk k s m b l) with
 | true =>
  rw [hP] at hc
  go_enter Tryz.func42, Tryz.ntmps42
  go_wp2_with fail
  rw [hE, Oper.upon_enter]
  refine hc.out.mono ?_
  rintro e w1 ⟨rfl, g1⟩
  go_wp2_with fail
  go_ret
  exact ⟨by simp, g1⟩
 | false =>
  rw [hP] at hc
  have hst : Hid (∀ (i : Nat) (U : Tr), l[i]? = some U → (preL (l.take (i + 1))).any P = ((preL (l.take i)).any P || (preL [U]).any P)) := fun i U hU => by
   show _ = _
   rw [List.take_add_one, hU, preL_app, List.any_append]; rfl
  replace ih := Lib.hid ih
  replace hrow := Lib.hid hrow
  replace hIs := Lib.hid hIs
  replace hI := Lib.hid hI
  go_enter Tryz.func42, Tryz.ntmps42
  go_wp2_with fail
  rw [hE, Oper.upon_enter]
  refine hc.out.mono ?_
  rintro e w1 ⟨rfl, g1⟩
  have y4 := cell_gr x4 g1 (fun e => e)
  have hs1 := g1.size
  have hg1 : g < w1.heap.size := by omega
  clear x0 x1 x2 x3 hT hc
  go_wp2_with fail
  go_loopw [14] (fun u wr => ∃ i : Nat, i ≤ l.length ∧ u = .int .i64 (i : Int) ∧ Hid ((preL (l.take i)).any P = false) ∧ Gr (fun _ => False) W wr) (fun u _ => l.length - (intOf u).toNat)
  case atStart => exact ⟨0, Nat.zero_le _, rfl, by show _ = _; rw [List.take_zero, preL_nil]; rfl, g1⟩
  case round =>
   obtain ⟨i, hi, rfl, hno, hG⟩ := hrel
   by_cases hlt : i < l.length
   ·
    have hd : decide ((i : Int) < (l.length : Int)) = true := by simp; omega
    have hTi : l[i]? = some l[i] := List.getElem?_eq_getElem hlt
    obtain ⟨g', o', rfl, hg', hTA⟩ := hrow.out i _ hTi
    have hst' := Lib.hid (hst.out i _ hTi)
    have hci := ih.out l[i] (List.getElem_mem hlt) wr g' (o' + i * 5) (hIs.out _ _ hI.out hG) (hTA.g0 hG hg') hg' (Nat.le_trans hN hG.size)
    generalize l[i] = U at hst' hci
    have z4 := cell_gr x4 hG (fun e => e)
    have hsz := hG.size
    have hgw : g < wr.heap.size := by omega
    have hgw' : g' < wr.heap.size := by omega
    have hb := Lib.hid hi
    replace hci := Lib.hid hci
    clear hTA hTi y4
    go_wp2_with fail
    refine hci.out.mono ?_
    rintro e w4 ⟨rfl, g4⟩
    cases hU : (preL [U]).any P with
    | true =>
     go_wp2_with fail
     go_ret
     refine ⟨?_, hG.trans g4⟩
     have h1 : (preL (l.take (i + 1))).any P = true := by rw [hst'.out, hU, Bool.or_true]
     have h2 : preL l = preL (l.take (i + 1)) ++ preL (l.drop (i + 1)) := by rw [← preL_app, List.take_append_drop]
     rw [h2, List.any_append, h1]; rfl
    | false =>
     go_wp2_with fail
     exact ⟨⟨i + 1, hlt, by go_num, by show _ = _; rw [hst'.out, hno.out, hU]; rfl, hG.trans g4⟩, by simp [intOf]; omega⟩
   ·
    have hd : decide ((i : Int) < (l.length : Int)) = false := by simp; omega
    obtain rfl : i = l.length := by omega
    go_wp2_with fail
    go_ret
    refine ⟨?_, hG⟩
    have := hno.out
    rw [List.take_length] at this
    rw [this]; rfl
theorem any_c {N n : Nat} {caps : Array Value} {I : World → Prop} {Q : Tr → Prop} {P : Tr → Bool} (hSo : So N n caps I Q P) (T : Tr) : Szs [T] → (∀ U ∈ preL [T], Q U) → AnyOk N n caps I P T :=
 Tr.rec (motive_1 := fun T => Szs [T] → (∀ U ∈ preL [T], Q U) → AnyOk N n caps I P T) (motive_2 := fun l => Szs l → (∀ U ∈ preL l, Q U) → ∀ T ∈ l, AnyOk N n caps I P T)
  (fun k s m b l ih hs hQ => by
    have h1 : l.length ≤ 4611686018427387904 := (hs (.mk k s m b l) (by rw [preL_cons]; simp)).2
    refine any_node hSo k s m b l h1 (hQ _ (by rw [preL_cons]; simp)) (ih (fun U hU => hs U ?_) (fun U hU => hQ U ?_))
    · rw [preL_cons]; simp [hU]
    · rw [preL_cons]; simp [hU])
  (fun _ _ T h => by cases h)
  (fun T l h1 h2 hs hQ U hU => by
    have e : preL (T :: l) = preL [T] ++ preL l := preL_app [T] l
    rcases List.mem_cons.1 hU with rfl | hU
    · exact h1 (fun V hV => hs V (by rw [e]; simp [hV])) (fun V hV => hQ V (by rw [e]; simp [hV]))
    · exact h2 (fun V hV => hs V (by rw [e]; simp [hV])) (fun V hV => hQ V (by rw [e]; simp [hV])) U hU) T
set_option maxRecDepth 100000 in
set_option maxHeartbeats 1600000 in
theorem every_c {N n : Nat} {caps : Array Value} {I : World → Prop} {Q : Tr → Prop} {P : Tr → Bool} (hSo : So N n caps I Q P) (l : List Tr) (hl : l.length ≤ 4611686018427387904) (hQ : ∀ T ∈ l, Q T) (W : World) (la : Option Addr) (lc : Nat) (hI : I W) (hrow : RowAt N W la l) (hN : N ≤ W.heap.size) :
 Calls Tryz.prog 89 #[.slice la l.length lc, .func (.func n) #[] caps] W fun e w' => e = .returned (.bool (l.all P)) ∧ Gr (fun _ => False) W w' := by
 obtain ⟨hE, hIs, hcall⟩ := hSo
 have hlI : (l.length : Int) ≤ 4611686018427387904 := by omega
 have hst : Hid (∀ (i : Nat) (U : Tr), l[i]? = some U → (l.take (i + 1)).all P = ((l.take i).all P && P U)) := fun i U hU => by
  show _ = _
  rw [List.take_add_one, hU, List.all_append]
  simp
 have hsp : Hid (∀ i, l.all P = ((l.take i).all P && (l.drop i).all P)) := fun i => by
  show _ = _
  rw [← List.all_append, List.take_append_drop]
 replace hrow := Lib.hid hrow
 replace hIs := Lib.hid hIs
 replace hI := Lib.hid hI
 replace hQ := Lib.hid hQ
 replace hcall := Lib.hid hcall
 go_enter Tryz.func89, Tryz.ntmps89
 go_wp2_with fail
 go_loopw [8] (fun u wr => ∃ i : Nat, i ≤ l.length ∧ u = .int .i64 (i : Int) ∧ Hid ((l.take i).all P = true) ∧ Gr (fun _ => False) W wr) (fun u _ => l.length - (intOf u).toNat)
 case atStart => exact ⟨0, Nat.zero_le _, rfl, by show _ = _; rw [List.take_zero]; rfl, Gr.refl _ _⟩
 case round =>
  obtain ⟨i, hi, rfl, hno, hG⟩ := hrel
  by_cases hlt : i < l.length
  ·
   have hd : decide ((i : Int) < (l.length : Int)) = true := by simp; omega
   have hTi : l[i]? = some l[i] := List.getElem?_eq_getElem hlt
   obtain ⟨g', o', rfl, hg', hTA⟩ := hrow.out i _ hTi
   have hst' := Lib.hid (hst.out i _ hTi)
   have hci := hcall.out wr g' (o' + i * 5) l[i] (hIs.out _ _ hI.out hG) (hQ.out _ (List.getElem_mem hlt)) (hTA.g0 hG hg') hg' (Nat.le_trans hN hG.size)
   generalize l[i] = U at hst' hci
   have hsz := hG.size
   have hgw' : g' < wr.heap.size := by omega
   replace hci := Lib.hid hci
   clear hTA hTi
   go_wp2_with fail
   rw [hE, Oper.upon_enter]
   refine hci.out.mono ?_
   rintro e w4 ⟨rfl, g4⟩
   cases hU : P U with
   | false =>
    go_wp2_with fail
    go_ret
    refine ⟨?_, hG.trans g4⟩
    rw [hsp.out (i + 1), hst'.out, hU, Bool.and_false]; rfl
   | true =>
    go_wp2_with fail
    exact ⟨⟨i + 1, hlt, by go_num, by show _ = _; rw [hst'.out, hno.out, hU]; rfl, hG.trans g4⟩, by simp [intOf]; omega⟩
  ·
   have hd : decide ((i : Int) < (l.length : Int)) = false := by simp; omega
   obtain rfl : i = l.length := by omega
   have e : Hid (l.all P = true) := by have := hno.out; show _ = _; rwa [List.take_length] at this
   clear hno hi hlt
   go_wp2_with fail
   go_ret
   exact ⟨by rw [e.out]; rfl, hG⟩
end Go.Proofs.YtjedbfbolifjjaaGreatDoor

namespace Go.Proofs.YtjedbfbolifjjaaGreatDoor
open Go.RowKit Go.Maps
variable {W W' : World}
def exV : Tr → Bool
 | .mk k _ _ _ _ => decide (1 ≤ k) && decide (k ≤ 13)
def isK (m : Int) : Tr → Bool
 | .mk k _ _ _ _ => k == m
theorem expression_c (N : Nat) : So N 90 #[] (fun _ => True) (fun _ => True) exV := by
 refine ⟨ent_of Tryz.func90 (by kernel_rfl) rfl, fun _ _ _ _ => trivial, fun W g o T _ _ hT hg hN => ?_⟩
 obtain ⟨k, s, n, b, l⟩ := T
 obtain ⟨ba, bc, la, lc, ⟨x0, x1, x2, x3, x4⟩, hrow, hgl⟩ := hT.parts
 show Calls Tryz.prog 90 #[ptr g o] W fun e w' => e = .returned (.bool (decide (1 ≤ k) && decide (k ≤ 13))) ∧ Gr (fun _ => False) W w'
 clear hrow hT x1 x2 x3 x4
 cases d1 : decide (1 ≤ k) <;> cases d2 : decide (k ≤ 13)
 all_goals
  go_enter Tryz.func90, Tryz.ntmps90
  go_wp2
  go_ret
  exact ⟨rfl, Gr.refl _ _⟩
/-- The closure that is waits with. -/
theorem isq_c (N u : Nat) (m : Int) (hu : N ≤ u) : So N 108 #[pt u] (fun w => w.cell? ⟨u, 0, none⟩ = some (.int .i64 m)) (fun _ => True) (isK m) := by
 refine ⟨ent_of Tryz.func108 (by kernel_rfl) rfl, fun w w' h g => cell_gr h g (fun e => e), fun W g o T hI _ hT hg hN => ?_⟩
 obtain ⟨k, s, n, b, l⟩ := T
 obtain ⟨ba, bc, la, lc, ⟨x0, x1, x2, x3, x4⟩, hrow, hgl⟩ := hT.parts
 show Calls Tryz.prog 108 #[ptr g o, pt u] W fun e w' => e = .returned (.bool (k == m)) ∧ Gr (fun _ => False) W w'
 have hul := World.block_lt_of_cell? _ _ hI
 clear hrow hT x1 x2 x3 x4
 go_enter Tryz.func108, Tryz.ntmps108
 go_wp2_with fail
 go_quiet (fail)
 go_wp2_with fail
 go_ret
 exact ⟨rfl, Gr.drewN _ _ _⟩
theorem mkis_c (W : World) (m : Int) : Calls Tryz.prog 91 #[.int .i64 m] W fun e w' => e = .returned (.func (.func 108) #[] #[pt W.heap.size]) ∧ w'.cell? ⟨W.heap.size, 0, none⟩ = some (.int .i64 m) ∧ Gr (fun _ => False) W w' := by
 go_enter Tryz.func91, Tryz.ntmps91
 go_wp2_with fail
 go_ret
 exact ⟨rfl, by have := heap_alloc_new W (.cells #[.int .i64 m] 3); simp only [World.cell?, this]; rfl, Gr.alloc _ _ _⟩
def zB (k : Int) : Bool := (k == 2) || (k == 3) || (k == 8) || (k == 11) || (k == 17)
def zL (k : Int) : Bool := (k == 1) || (k == 2) || (k == 3) || (k == 4)
/-- Is each field zero that its kind does not name? -/
def bareV : Tr → Bool
 | .mk k s n b l => ((zB k || (s.toList == [])) && ((k == 1) || (n == 0))) && ((k == 4) || (b.length == 0)) && (!zL k || (l.length == 0))
set_option maxRecDepth 100000 in
set_option maxHeartbeats 4000000 in
theorem bare_c (W : World) (k : Int) (s : ByteArray) (n : Int) (b : List Int) (l : List Tr) (ba : Option Addr) (bc : Nat) (la : Option Addr) (lc : Nat) :
 Calls Tryz.prog 67 #[trv k s n (.slice ba b.length bc) (.slice la l.length lc)] W fun e w' => e = .returned (.bool (bareV (.mk k s n b l))) ∧ Gr (fun _ => False) W w' := by
 have hgr : Hid (∀ (o : Obj) w', Gr (fun j => j = W.heap.size) (W.alloc o) w' → Gr (fun _ => False) W w') := fun o w' g => (Gr.alloc W o _).trans' g (fun j hj e => by omega)
 have e1 : ((b.length : Int) == 0) = (b.length == 0) := by cases b <;> simp <;> omega
 have e2 : ((l.length : Int) == 0) = (l.length == 0) := by cases l <;> simp <;> omega
 show Calls Tryz.prog 67 #[trv k s n (.slice ba b.length bc) (.slice la l.length lc)] W fun e w' => e = .returned (.bool (((zB k || (s.toList == [])) && ((k == 1) || (n == 0))) && ((k == 4) || (b.length == 0)) && (!zL k || (l.length == 0)))) ∧ Gr (fun _ => False) W w'
 rw [← e1, ← e2]
 clear e1 e2
 generalize (b.length : Nat) = bl
 generalize (l.length : Nat) = ll
 unfold zB zL
 cases q1 : (k == 1) <;> cases q2 : (k == 2) <;> cases q3 : (k == 3) <;> cases q4 : (k == 4) <;> cases q8 : (k == 8) <;> cases q11 : (k == 11) <;> cases q17 : (k == 17) <;> try (exfalso; simp only [beq_iff_eq] at *; omega)
 all_goals
  go_enter Tryz.func67, Tryz.ntmps67
  go_wp2
  all_goals
   go_ret
   refine ⟨congrArg (fun b => Ending.returned (Value.bool b)) ?_, Gr.alloc _ _ _⟩
   first | (simp [*]; done) | (simp_all; done) | (simp_all; omega)
end Go.Proofs.YtjedbfbolifjjaaGreatDoor
