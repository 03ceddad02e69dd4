/-
  Questions that keep a state: anyPart of a closure that counts or gathers; crowded.
  Names put into a set: all of a tree.
  Parameters of one name.
-/
import Derived.Test.YtjedbfbolifjjaaGreatDoorKA
import Derived.Test.YtjedbfbolifjjaaGreatDoorKB
import Derived.Test.YtjedbfbolifjjaaGreatDoorGQ
import Derived.Deep.RegionHeld3
import Derived.Test.YtjedbfbolifjjaaGreatDoorKO
set_option linter.unusedVariables false
set_option linter.unusedSimpArgs false
namespace Go.Proofs.YtjedbfbolifjjaaGreatDoor
open Go.RowKit Go.Maps
variable {W W' : World} {α : Type}
/-- A question with a state, asked of one part after the other until it says yes. -/
def goA (step : α → Tr → Bool × α) : α → List Tr → Bool × α
 | s, [] => (false, s)
 | s, T :: l => if (step s T).1 then (true, (step s T).2) else goA step (step s T).2 l
theorem goA_app (step : α → Tr → Bool × α) (a b : List Tr) : ∀ s, goA step s (a ++ b) = if (goA step s a).1 then (true, (goA step s a).2) else goA step (goA step s a).2 b := by
 induction a with
 | nil => intro s; simp [goA]
 | cons T l ih =>
  intro s
  simp only [List.cons_append, goA]
  by_cases h : (step s T).1 = true
  · simp [h]
  · simp [h, ih]
/-- What a question asks of each part ahead of its turn. -/
def okA (Q : α → Tr → Prop) (step : α → Tr → Bool × α) : α → List Tr → Prop
 | _, [] => True
 | s, T :: l => Q s T ∧ ((step s T).1 = false → okA Q step (step s T).2 l)
theorem okA_app (Q : α → Tr → Prop) (step : α → Tr → Bool × α) (a b : List Tr) : ∀ s, okA Q step s (a ++ b) → okA Q step s a ∧ ((goA step s a).1 = false → okA Q step (goA step s a).2 b) := by
 induction a with
 | nil => intro s h; exact ⟨trivial, fun _ => h⟩
 | cons T l ih =>
  intro s h
  obtain ⟨h1, h2⟩ := h
  by_cases h3 : (step s T).1 = true
  · refine ⟨⟨h1, fun e => by rw [h3] at e; cases e⟩, fun e => ?_⟩
    have : goA step s (T :: l) = (true, (step s T).2) := if_pos h3
    rw [this] at e; cases e
  · have h4 : (step s T).1 = false := by simpa using h3
    obtain ⟨h5, h6⟩ := ih _ (h2 h4)
    refine ⟨⟨h1, fun _ => h5⟩, fun e => ?_⟩
    have : goA step s (T :: l) = goA step (step s T).2 l := if_neg h3
    rw [this] at e ⊢
    exact h6 e
def SoS (N n : Nat) (caps : Array Value) (S : Nat → Prop) (In : α → World → Prop) (Q : α → Tr → Prop) (step : α → Tr → Bool × α) : Prop :=
 Ent n ∧ (∀ k, k < N → ¬ S k) ∧ ∀ (W : World) (s : α) (g o : Nat) (T : Tr), In s W → Q s T → TAtG N W g o T → g < N → N ≤ W.heap.size → Calls Tryz.prog n (#[ptr g o] ++ caps) W fun e w' => e = .returned (.bool (step s T).1) ∧ ((step s T).1 = false → In (step s T).2 w') ∧ Gr S W w'
def AnyS (N n : Nat) (caps : Array Value) (S : Nat → Prop) (In : α → World → Prop) (Q : α → Tr → Prop) (step : α → Tr → Bool × α) (T : Tr) : Prop := ∀ (W : World) (s : α) (g o : Nat), In s W → okA Q step s (preL [T]) → TAtG N W g o T → g < N → N ≤ W.heap.size →
 Calls Tryz.prog 42 #[ptr g o, .func (.func n) #[] caps] W fun e w' => e = .returned (.bool (goA step s (preL [T])).1) ∧ ((goA step s (preL [T])).1 = false → In (goA step s (preL [T])).2 w') ∧ Gr S W w'
set_option maxRecDepth 100000 in
set_option maxHeartbeats 1600000 in
theorem anys_node {N n : Nat} {caps : Array Value} {S : Nat → Prop} {In : α → World → Prop} {Q : α → Tr → Prop} {step : α → Tr → Bool × α} (hSo : SoS N n caps S In Q step) (k : Int) (s : ByteArray) (m : Int) (b : List Int) (l : List Tr) (hl : l.length ≤ 4611686018427387904) (ih : ∀ T ∈ l, AnyS N n caps S In Q step T) : AnyS N n caps S In Q step (.mk k s m b l) := by
 intro W a g o hI hok hT hg hN
 rw [preL_cons, preL_nil, List.append_nil] at hok
 obtain ⟨hQ, hok⟩ := hok
 obtain ⟨ba, bc, la, lc, ⟨x0, x1, x2, x3, x4⟩, hrow, hgl⟩ := hT.parts
 obtain ⟨hE, hSN, hcall⟩ := hSo
 have hc := hcall W a g o _ hI hQ hT hg hN
 have hlI : (l.length : Int) ≤ 4611686018427387904 := by omega
 have e0 : goA step a (preL [Tr.mk k s m b l]) = if (step a (.mk k s m b l)).1 then (true, (step a (.mk k s m b l)).2) else goA step (step a (.mk k s m b l)).2 (preL l) := by rw [preL_cons, preL_nil, List.append_nil]; rfl
 rw [e0]
 clear hcall e0
 replace hc := Lib.hid hc
 cases hP : step a (.mk k s m b l) with
 | mk bb a1 =>
 rw [hP] at hc hok
 cases bb with
 | true =>
  go_enter Tryz.func42, Tryz.ntmps42
  go_wp2_with fail
  rw [hE, Oper.upon_enter]
  refine hc.out.mono ?_
  rintro e w1 ⟨rfl, hI1, g1⟩
  replace hI1 := Lib.hid hI1
  go_wp2_with fail
  go_ret
  exact ⟨by simp, g1⟩
 | false =>
  have hst : Hid (∀ (i : Nat) (U : Tr), l[i]? = some U → goA step a1 (preL (l.take (i + 1))) = if (goA step a1 (preL (l.take i))).1 then (true, (goA step a1 (preL (l.take i))).2) else goA step (goA step a1 (preL (l.take i))).2 (preL [U])) := fun i U hU => by
   show _ = _
   rw [List.take_add_one, hU, preL_app, goA_app]; rfl
  have hsp : Hid (∀ i, goA step a1 (preL l) = if (goA step a1 (preL (l.take i))).1 then (true, (goA step a1 (preL (l.take i))).2) else goA step (goA step a1 (preL (l.take i))).2 (preL (l.drop i))) := fun i => by
   show _ = _
   rw [← goA_app, ← preL_app, List.take_append_drop]
  replace hok := Lib.hid (hok rfl)
  replace ih := Lib.hid ih
  replace hrow := Lib.hid hrow
  replace hSN := Lib.hid hSN
  clear hI
  go_enter Tryz.func42, Tryz.ntmps42
  go_wp2_with fail
  rw [hE, Oper.upon_enter]
  refine hc.out.mono ?_
  rintro e w1 ⟨rfl, hI1, g1⟩
  have y4 := cell_gr x4 g1 (hSN.out g hg)
  have hs1 := g1.size
  have hg1 : g < w1.heap.size := by omega
  replace hI1 := Lib.hid hI1
  clear x0 x1 x2 x3 hT hc
  go_wp2_with fail
  go_loopw [14] (fun u wr => ∃ i : Nat, i ≤ l.length ∧ u = .int .i64 (i : Int) ∧ Hid ((goA step a1 (preL (l.take i))).1 = false) ∧ Hid (In (goA step a1 (preL (l.take i))).2 wr) ∧ Gr S W wr) (fun u _ => l.length - (intOf u).toNat)
  case atStart => exact ⟨0, Nat.zero_le _, rfl, by show _ = _; rw [List.take_zero, preL_nil]; rfl, by show In _ _; rw [List.take_zero, preL_nil]; exact hI1.out (by first | rfl | trivial), g1⟩
  case round =>
   obtain ⟨i, hi, rfl, hno, hIi, hG⟩ := hrel
   by_cases hlt : i < l.length
   ·
    have hd : decide ((i : Int) < (l.length : Int)) = true := by simp; omega
    have hTi : l[i]? = some l[i] := List.getElem?_eq_getElem hlt
    obtain ⟨g', o', rfl, hg', hTA⟩ := hrow.out i _ hTi
    have hst' := hst.out i _ hTi
    rw [hno.out] at hst'
    have hoi : okA Q step (goA step a1 (preL (l.take i))).2 (preL [l[i]]) := by
     have e : preL l = preL (l.take i) ++ (preL [l[i]] ++ preL (l.drop (i + 1))) := by
      rw [← preL_app, ← preL_app]
      congr 1
      rw [List.singleton_append, List.getElem_cons_drop, List.take_append_drop]
     have h1 := hok.out
     rw [e] at h1
     exact (okA_app Q step _ _ _ ((okA_app Q step _ _ _ h1).2 hno.out)).1
    have hci := ih.out l[i] (List.getElem_mem hlt) wr _ g' (o' + i * 5) hIi.out hoi (hTA.gr hG hSN.out hg') hg' (Nat.le_trans hN hG.size)
    rw [← show goA step a1 (preL (l.take (i + 1))) = goA step (goA step a1 (preL (l.take i))).2 (preL [l[i]]) from hst'] at hci
    have hsp' := Lib.hid (hsp.out (i + 1))
    clear hst' hoi
    generalize l[i] = U at *
    have z4 := cell_gr x4 hG (hSN.out g hg)
    have hsz := hG.size
    have hgw : g < wr.heap.size := by omega
    have hgw' : g' < wr.heap.size := by omega
    have hb := Lib.hid hi
    cases hU : goA step a1 (preL (l.take (i + 1))) with
    | mk bu a2 =>
    rw [hU] at hci
    replace hci := Lib.hid hci
    replace hU := Lib.hid hU
    clear hTA hTi y4
    go_wp2_with fail
    refine hci.out.mono ?_
    rintro e w4 ⟨rfl, hI4, g4⟩
    replace hI4 := Lib.hid hI4
    cases bu with
    | true =>
     go_wp2_with fail
     go_ret
     have e2 := hsp'.out
     rw [hU.out] at e2
     refine ⟨?_, ?_, hG.trans g4⟩
     · rw [e2]; rfl
     · rw [e2]; intro h; cases h
    | false =>
     go_wp2_with fail
     exact ⟨⟨i + 1, hlt, by go_num, by show _ = _; rw [hU.out], by show In _ _; rw [hU.out]; exact hI4.out (by first | rfl | trivial), hG.trans g4⟩, by simp [intOf]; omega⟩
   ·
    have hd : decide ((i : Int) < (l.length : Int)) = false := by simp; omega
    obtain rfl : i = l.length := by omega
    go_wp2_with fail
    go_ret
    have h1 := hno.out
    have h2 := hIi.out
    rw [List.take_length] at h1 h2
    exact ⟨by rw [h1]; rfl, fun _ => h2, hG⟩
theorem anys_c {N n : Nat} {caps : Array Value} {S : Nat → Prop} {In : α → World → Prop} {Q : α → Tr → Prop} {step : α → Tr → Bool × α} (hSo : SoS N n caps S In Q step) (T : Tr) : Szs [T] → AnyS N n caps S In Q step T :=
 Tr.rec (motive_1 := fun T => Szs [T] → AnyS N n caps S In Q step T) (motive_2 := fun l => Szs l → ∀ T ∈ l, AnyS N n caps S In Q step T)
  (fun k s m b l ih hs => by
    have h1 : l.length ≤ 4611686018427387904 := (hs (.mk k s m b l) (by rw [preL_cons]; simp)).2
    refine anys_node hSo k s m b l h1 (ih (fun U hU => hs U ?_))
    rw [preL_cons]; simp [hU])
  (fun _ T h => by cases h)
  (fun T l h1 h2 hs U hU => by
    have e : preL (T :: l) = preL [T] ++ preL l := preL_app [T] l
    rcases List.mem_cons.1 hU with rfl | hU
    · exact h1 (fun V hV => hs V (by rw [e]; simp [hV]))
    · exact h2 (fun V hV => hs V (by rw [e]; simp [hV])) U hU) T
theorem okA_true (step : α → Tr → Bool × α) (l : List Tr) : ∀ s, okA (fun _ _ => True) step s l := by
 induction l with
 | nil => intro s; trivial
 | cons T l ih => intro s; exact ⟨trivial, fun _ => ih _⟩
def cnt (c : Nat) (_ : Tr) : Bool × Nat := (decide (4000 < c + 1), c + 1)
theorem cnt_go (l : List Tr) : ∀ c, c ≤ 4000 → (goA cnt c l).1 = decide (4000 < c + l.length) := by
 induction l with
 | nil => intro c hc; simp [goA]; omega
 | cons T l ih =>
  intro c hc
  have e : goA cnt c (T :: l) = if (cnt c T).1 = true then (true, (cnt c T).2) else goA cnt (cnt c T).2 l := rfl
  by_cases h : 4000 < c + 1
  · have h1 : (cnt c T).1 = true := decide_eq_true h
    rw [e, if_pos h1, List.length_cons]
    exact (decide_eq_true (by omega)).symm
  ·
   have h1 : ¬ (cnt c T).1 = true := by simp [cnt]; omega
   rw [e, if_neg h1, List.length_cons]
   show (goA cnt (c + 1) l).1 = _
   rw [ih (c + 1) (by omega)]
   congr 1
   apply propext
   constructor <;> intro <;> omega
def Cn (b c : Nat) (W : World) : Prop := W.heap[b]? = some (.cells #[.int .i64 (c : Int)] 3 (0, 0)) ∧ c ≤ 4000
set_option maxRecDepth 100000 in
set_option maxHeartbeats 1600000 in
theorem count_c (W : World) (b c g o : Nat) (h : Cn b c W) : Calls Tryz.prog 66 #[ptr g o, ptr b 0] W fun e w' => e = .returned (.bool (decide (4000 < c + 1))) ∧ (decide (4000 < c + 1) = false → Cn b (c + 1) w') ∧ Gr (fun k => k = b) W w' := by
 obtain ⟨hb, hc⟩ := h
 have hcI : (c : Int) ≤ 4000 := by omega
 have hb1 := (Array.getElem?_eq_some_iff.1 hb).1
 have he : decide ((4000 : Int) < (c : Int) + 1) = decide (4000 < c + 1) := by congr 1; apply propext; constructor <;> intro <;> omega
 have gg : Gr (fun k => k = b) W (W.setCell ⟨b, 0, none⟩ (.int .i64 ((c : Int) + 1))) := Gr.set _ _ _ rfl
 have h1 : (W.setCell ⟨b, 0, none⟩ (.int .i64 ((c : Int) + 1))).heap[b]? = some (.cells #[.int .i64 ((c : Int) + 1)] 3 (0, 0)) := heap_setCell_same W b 0 _ 3 _ hb
 have x0 : W.cell? ⟨b, 0, none⟩ = some (.int .i64 (c : Int)) := by simp [World.cell?, hb]
 have x1 : (W.setCell ⟨b, 0, none⟩ (.int .i64 ((c : Int) + 1))).cell? ⟨b, 0, none⟩ = some (.int .i64 ((c : Int) + 1)) := by simp [World.cell?, h1]
 have hf : W.frozen? ⟨b, 0, none⟩ = false := by simp [World.frozen?, hb]
 replace hc := Lib.hid hc
 replace h1 := Lib.hid h1
 go_enter Tryz.func66, Tryz.ntmps66
 go_wp2_with fail
 go_ret
 refine ⟨rfl, fun h => ⟨?_, ?_⟩, gg⟩
 · have := h1.out
   simpa using this
 · have := hc.out; simp at h; omega
theorem cnt_so (N b : Nat) (hb : N ≤ b) : SoS N 66 #[ptr b 0] (fun k => k = b) (fun c W => Cn b c W) (fun _ _ => True) cnt :=
 ⟨ent_of Tryz.func66 (by kernel_rfl) rfl, fun k hk e => by omega, fun W c g o T hI _ _ _ _ => count_c W b c g o hI⟩
def crowdV (T : Tr) : Bool := decide (4000 < (preL [T]).length)
set_option maxRecDepth 100000 in
set_option maxHeartbeats 1600000 in
theorem crowded_c (N : Nat) (T : Tr) (hs : Szs [T]) (W : World) (g o : Nat) (hT : TAtG N W g o T) (hg : g < N) (hN : N ≤ W.heap.size) : Calls Tryz.prog 44 #[ptr g o] W fun e w' => e = .returned (.bool (crowdV T)) ∧ Gr (fun _ => False) W w' := by
 have hA := Gr.alloc W (.cells #[.int .i64 0] 3 (0, 0)) (fun _ => False)
 have hq := anys_c (cnt_so N W.heap.size hN) T hs
 have hn : (goA cnt 0 (preL [T])).1 = crowdV T := by rw [cnt_go _ 0 (by omega), Nat.zero_add]; rfl
 have hI : Cn W.heap.size 0 (W.alloc (.cells #[.int .i64 0] 3 (0, 0))) := ⟨heap_alloc_new W _, by omega⟩
 have hc := hq _ 0 g o hI (okA_true _ _ _) (hT.g0 hA hg) hg (Nat.le_trans hN hA.size)
 rw [hn] at hc
 replace hc := Lib.hid hc
 clear hI hq hT hn
 go_enter Tryz.func44, Tryz.ntmps44
 go_wp2_with fail
 refine hc.out.mono ?_
 rintro e w1 ⟨rfl, _, g1⟩
 go_wp2_with fail
 go_ret
 exact ⟨rfl, hA.trans' g1 (fun k hk e => absurd e (by omega))⟩
end Go.Proofs.YtjedbfbolifjjaaGreatDoor

namespace Go.Proofs.YtjedbfbolifjjaaGreatDoor
open Go.RowKit Go.Maps
variable {W W' : World}
/-- What one part adds to the names. -/
def pst (L : List ByteArray) : Tr → Bool × List ByteArray
 | .mk k s _ _ _ => (false, if k = 3 then putL L s else L)
theorem putL_len (L : List ByteArray) (s : ByteArray) : (putL L s).length ≤ L.length + 1 := by
 unfold putL; split <;> simp
theorem pst_len (L : List ByteArray) (T : Tr) : (pst L T).2.length ≤ L.length + 1 := by
 obtain ⟨k, s, n, b, l⟩ := T
 have := putL_len L s
 unfold pst; dsimp only; split <;> omega
def BdAt (u mb : Nat) (L : List ByteArray) (W : World) : Prop := W.cell? ⟨u, 0, none⟩ = some (.map (some mb)) ∧ Bd W mb L
abbrev SP (u g o mb : Nat) (s : ByteArray) (w : World) : Prop := w.cell? ⟨u, 0, none⟩ = some (.map (some mb)) ∧ w.cell? ⟨g, o + 1, none⟩ = some (.string s)
def pQ (L : List ByteArray) (T : Tr) : Prop := L.length ≤ 1000000 ∧ szT T
theorem pst_ok (l : List Tr) : ∀ L : List ByteArray, (∀ T ∈ l, szT T) → L.length + l.length ≤ 1000000 → okA pQ pst L l := by
 induction l with
 | nil => intro L _ _; trivial
 | cons T l ih =>
  intro L hs hl
  rw [List.length_cons] at hl
  have := pst_len L T
  exact ⟨⟨by omega, hs T (by simp)⟩, fun _ => ih _ (fun U hU => hs U (by simp [hU])) (by omega)⟩
def putT (L : List ByteArray) (T : Tr) : List ByteArray := (goA pst L (preL [T])).2
theorem pst_no (l : List Tr) : ∀ L, (goA pst L l).1 = false := by
 induction l with
 | nil => intro L; rfl
 | cons T l ih =>
  intro L
  obtain ⟨k, s, n, b, q⟩ := T
  have e : goA pst L (.mk k s n b q :: l) = goA pst (pst L (.mk k s n b q)).2 l := if_neg (by simp [pst])
  rw [e]; exact ih _
set_option maxRecDepth 100000 in
set_option maxHeartbeats 1600000 in
theorem pst_so (N u mb : Nat) (hm : N ≤ mb) (hu : u ≠ mb) : SoS N 96 #[ptr u 0] (fun k => k = mb) (fun L w => BdAt u mb L w) pQ pst := by
 refine ⟨ent_of Tryz.func96 (by kernel_rfl) rfl, fun k hk e => by omega, fun W L g o T hI hQ hT hg hN => ?_⟩
 obtain ⟨k, s, n, b, l⟩ := T
 obtain ⟨ba, bc, la, lc, ⟨x0, x1, x2, x3, x4⟩, hrow, hgl⟩ := hT.parts
 obtain ⟨xu, hB⟩ := hI
 obtain ⟨hL, hs⟩ := hQ
 have hs' : s.size ≤ 140737488351232 := hs.1
 have hul := World.block_lt_of_cell? _ _ xu
 dsimp only at hul
 by_cases hk : k = 3
 ·
  subst hk
  show Calls Tryz.prog 96 #[ptr g o, ptr u 0] W fun e w' => e = .returned (.bool false) ∧ (false = false → BdAt u mb (putL L s) w') ∧ Gr (fun k => k = mb) W w'
  have hp := Lib.hid (put_c W.drew mb L s (hB.gr (Gr.drew W (fun _ => False)) (fun e => e)) hs' hL)
  have TS : SP u g o mb s W.drew := ⟨xu, x1⟩
  obtain ⟨z0, z1⟩ := TS
  have TS : SP u g o mb s W.drew := ⟨z0, z1⟩
  replace hB := Lib.hid hB
  replace hL := Lib.hid hL
  clear hrow hT x2 x3 x4 hs hs'
  go_enter Tryz.func96, Tryz.ntmps96
  go_wp2_with fail
  go_region_held3 (SP u g o mb s) (with_reducible assumption)
   (first
     | (go_at_call 37; refine hp.out.mono ?_; rintro e w2 ⟨rfl, hB2, g2⟩; have s2 : SP u g o mb s w2 := ⟨cell_gr TS.1 g2 hu, cell_gr TS.2 g2 (by omega)⟩)
     | fail)
  all_goals
   have h2 := Lib.hid hB2
   have gg : Gr (fun k => k = mb) W w2 := (Gr.drew W _).trans g2
   clear hB2
   go_wp2_with fail
   go_ret
   exact ⟨rfl, fun _ => ⟨cell_gr xu gg hu, h2.out⟩, gg⟩
 ·
  have e1 : pst L (.mk k s n b l) = (false, L) := by show (false, if k = 3 then putL L s else L) = _; rw [if_neg hk]
  rw [e1]
  have hk' : (k == 3) = false := by simpa using hk
  replace hB := Lib.hid hB
  replace hL := Lib.hid hL
  clear hrow hT x1 x2 x3 x4 hs hs' e1
  go_enter Tryz.func96, Tryz.ntmps96
  go_wp2_with fail
  go_ret
  exact ⟨rfl, fun _ => ⟨xu, hB.out⟩, Gr.refl _ _⟩
set_option maxRecDepth 100000 in
set_option maxHeartbeats 1600000 in
theorem putAll_c (N : Nat) (T : Tr) (hs : Szs [T]) (W : World) (mb g o : Nat) (L : List ByteArray) (hB : Bd W mb L) (hm : N ≤ mb) (hT : TAtG N W g o T) (hg : g < N) (hn : L.length + (preL [T]).length ≤ 1000000) : Calls Tryz.prog 72 #[.map (some mb), ptr g o] W fun e w' => e = .returned (.tuple #[]) ∧ Bd w' mb (putT L T) ∧ Gr (fun k => k = mb) W w' := by
 have hml := hB.lt
 have gA := Gr.alloc W (.cells #[.map (some mb)] 66) (fun _ => False)
 have hq := anys_c (pst_so N W.heap.size mb hm (by omega)) T hs
 have hbx := one_cell (heap_alloc_new W (.cells #[.map (some mb)] 66))
 have hc := hq _ L g o ⟨hbx.1, hB.gr gA (fun e => e)⟩ (pst_ok _ _ (fun U hU => hs U hU) hn) (hT.g0 gA hg) hg (by have := gA.size; omega)
 rw [pst_no] at hc
 replace hc := Lib.hid hc
 replace hB := Lib.hid hB
 clear hq hT hn hbx
 go_enter Tryz.func72, Tryz.ntmps72
 go_wp2_with fail
 refine hc.out.mono ?_
 rintro e w1 ⟨rfl, h1, g1⟩
 have h2 := Lib.hid (h1 (by first | trivial | rfl)).2
 clear h1
 go_wp2_with fail
 exact ⟨rfl, .tuple #[], by simp [results, Tryz.results72, go_sem], rfl, h2.out, (gA.any _).trans g1⟩
end Go.Proofs.YtjedbfbolifjjaaGreatDoor

namespace Go.Proofs.YtjedbfbolifjjaaGreatDoor
open Go.RowKit Go.Maps
variable {W W' : World}
/-- Does a name come twice? -/
def twL : List ByteArray → List Tr → Bool
 | _, [] => false
 | L, .mk _ s _ _ _ :: r => if (s.toList == [95]) = true then twL L r else if newN L s = true then twL (L ++ [s]) r else true
def ptV : Tr → Bool
 | .mk k _ _ _ l => (k == 17) && twL [] (l.take (l.length - 1))
abbrev SQ (g o : Nat) (la : Option Addr) (n lc : Nat) (w : World) : Prop := w.cell? ⟨g, o + 4, none⟩ = some (.slice la n lc)
set_option maxRecDepth 100000 in
set_option maxHeartbeats 1600000 in
theorem twice_c (N : Nat) : So N 50 #[] (fun _ => True) (fun T => Szs [T] ∧ ∀ U ∈ preL [T], U.l.length ≤ 4000 ∧ (U.k = 17 → U.l ≠ [])) ptV := by
 refine ⟨ent_of Tryz.func50 (by kernel_rfl) rfl, fun _ _ _ _ => trivial, fun W g o T _ hs hT hg hN => ?_⟩
 obtain ⟨k, s, n, b, l⟩ := T
 obtain ⟨hs, hq⟩ := hs
 obtain ⟨hl4, hne⟩ := hq (.mk k s n b l) (by rw [preL_cons]; simp)
 dsimp only at hl4 hne
 obtain ⟨ba, bc, la, lc, ⟨x0, x1, x2, x3, x4⟩, hrow, hgl⟩ := hT.parts
 have hcap := hT.cap x4
 have hszc : ∀ i U, l[i]? = some U → szT U := fun i U hi => hs U (by
  rw [preL_cons, preL_nil, List.append_nil]
  have := List.mem_of_getElem? hi
  obtain ⟨p, q, rfl⟩ := List.append_of_mem this
  rw [preL_app, show U :: q = [U] ++ q from rfl, preL_app]
  obtain ⟨uk, us, un, ub, ul⟩ := U
  rw [preL_cons]; simp)
 show Calls Tryz.prog 50 #[ptr g o] W fun e w' => e = .returned (.bool ((k == 17) && twL [] (l.take (l.length - 1)))) ∧ Gr (fun _ => False) W w'
 by_cases hk : k = 17
 case neg =>
  have hk' : (k == 17) = false := by simpa using hk
  rw [hk']
  clear hrow hT x1 x2 x3 x4 hs hq hne hszc hcap
  go_enter Tryz.func50, Tryz.ntmps50
  go_wp2_with fail
  go_ret
  exact ⟨rfl, Gr.refl _ _⟩
 subst hk
 have hne := hne rfl
 obtain ⟨m, hm⟩ : ∃ m, l.length = m + 1 := ⟨l.length - 1, by have := List.length_pos_iff.2 hne; omega⟩
 have gM := Gr.alloc W (.map #[] 0) (fun _ => False)
 have gD := gM.trans (Gr.drew _ (fun _ => False))
 have hB0 := (Bd.new W).gr (Gr.drew _ (fun _ => False)) (fun e => e)
 have hh := head_c N (W.alloc (.map #[] 0)).drew g o _ s n b l (hT.g0 gD hg) (by omega)
 rw [hm] at hh x4 hcap
 rw [show ((m + 1 : Nat) : Int) - 1 = (m : Int) by omega] at hh
 show Calls Tryz.prog 50 #[ptr g o] W fun e w' => e = .returned (.bool (twL [] (l.take (l.length - 1)))) ∧ Gr (fun _ => False) W w'
 rw [hm, Nat.add_sub_cancel]
 obtain ⟨r, hr⟩ : ∃ r, r = twL [] (l.take m) := ⟨_, rfl⟩
 rw [← hr]
 have Hr := Lib.hid hr
 have hmI : (m : Int) ≤ 4000 := by omega
 have hmc : m ≤ lc := by omega
 have S0 : SQ g o la (m + 1) lc (W.alloc (.map #[] 0)).drew := cell_gr x4 gD (fun e => e)
 have hgw : g < (W.alloc (.map #[] 0)).drew.heap.size := by have := gD.size; omega
 have hml : m < l.length := by omega
 replace hh := Lib.hid hh
 replace hrow := Lib.hid hrow
 replace hszc := Lib.hid hszc
 replace hB0 := Lib.hid hB0
 replace hl4 := Lib.hid hl4
 have hfd : ∀ w, (Instr.field 61 (hdv s (m : Int)) 1).run Tryz.prog w = .ok (.int .i64 (m : Int)) w := fun w => by rfl
 have hm0 : (0 : Int) ≤ (m : Int) := by omega
 have hmc' : (m : Int) ≤ (lc : Int) := by omega
 have hmm : ∀ w, (Instr.makeMap 66 none).run Tryz.prog w = .ok (.map (some w.heap.size)) (w.alloc (.map #[] 0)) := fun _ => rfl
 clear hT x1 x2 x3 hs hq hne hr
 go_enter Tryz.func50, Tryz.ntmps50
 go_wp2_with fail
 go_region_held3 (SQ g o la (m + 1) lc) (with_reducible assumption)
  (first
    | (go_at_call 70; refine hh.out.mono ?_; rintro e w2 ⟨rfl, g2⟩; have s2 : SQ g o la (m + 1) lc w2 := cell_gr S0 g2 (fun e => e))
    | fail)
 have hB2 := Lib.hid (hB0.out.gr g2 (fun e => e))
 have G2 : Gr (fun _ => False) W w2 := gD.trans g2
 have h0 : Hid (r = twL [] ((l.take m).drop 0)) := Hr
 clear hB0 gM gD S0 s2 hh x0 x4 g2 hfd hmm hgw
 generalize hmb : W.heap.size = mb at hB2 ⊢
 go_wp2_with fail
 go_loopw [21] (fun u wr => ∃ (i : Nat) (L : List ByteArray), i ≤ m ∧ u = .int .i64 (i : Int) ∧ Hid (r = twL L ((l.take m).drop i)) ∧ Hid (Bd wr mb L) ∧ Hid (L.length ≤ i) ∧ Gr (fun _ => False) W wr) (fun u _ => m - (intOf u).toNat)
 case atStart => exact ⟨0, [], Nat.zero_le _, rfl, h0, hB2, Nat.zero_le _, G2⟩
 case round =>
  obtain ⟨i, L, hi, rfl, hR, hB, hL, hG⟩ := hrel
  by_cases hlt : i < m
  ·
   have hd : decide ((i : Int) < (m : Int)) = true := by simp; omega
   have hil : i < l.length := by omega
   have hTi : l[i]? = some l[i] := List.getElem?_eq_getElem hil
   have hdr : (l.take m).drop i = l[i] :: (l.take m).drop (i + 1) := by
    rw [List.drop_eq_getElem_cons (by rw [List.length_take]; omega), List.getElem_take]
   obtain ⟨g', o', rfl, hg', hTA⟩ := hrow.out i _ hTi
   have hsz := hszc.out i _ hTi
   generalize l[i] = U at hTA hsz hdr
   obtain ⟨uk, us, un, ub, ul⟩ := U
   obtain ⟨ba', bc', la', lc', ⟨y0, y1, y2, y3, y4⟩, hrow', hgl'⟩ := (hTA.g0 hG hg').parts
   have hs' : us.size ≤ 140737488351232 := hsz.1
   obtain ⟨OB, hOB⟩ : ∃ ob, ob = Obj.cells #[.int .i64 uk, .string us, .int .i64 un, .slice ba' ub.length bc', .slice la' ul.length lc'] 25 (0, 0) := ⟨_, rfl⟩
   have gA := Gr.alloc wr (.cells #[.int .i64 uk, .string us, .int .i64 un, .slice ba' ub.length bc', .slice la' ul.length lc'] 25) (fun _ => False)
   obtain ⟨⟨z0, z1, z2, z3, z4⟩, _⟩ := five_cells (heap_alloc_new wr (.cells #[.int .i64 uk, .string us, .int .i64 un, .slice ba' ub.length bc', .slice la' ul.length lc'] 25))
   have hput := Lib.hid (put_c _ mb L us (hB.out.gr gA (fun e => e)) hs' (by have := hL.out; omega))
   rw [hdr] at hR
   have e1 : twL L (.mk uk us un ub ul :: (l.take m).drop (i + 1)) = if (us.toList == [95]) = true then twL L ((l.take m).drop (i + 1)) else if newN L us = true then twL (L ++ [us]) ((l.take m).drop (i + 1)) else true := rfl
   replace hR := Lib.hid (hR.out.trans e1)
   have hmbl : mb < wr.heap.size := hB.out.lt
   have hgw' : g' < wr.heap.size := hgl'
   have hb := Lib.hid hi
   clear hTA hTi hrow' hsz e1 hdr hOB
   cases q1 : (us.toList == [95]) with
   | true =>
    rw [q1] at hR
    go_wp2_with fail
    exact ⟨⟨i + 1, L, hlt, by go_num, hR, Lib.hid (hB.out.gr gA (fun e => e)), Lib.hid (by have := hL.out; omega), hG.trans gA⟩, by simp [intOf]; omega⟩
   | false =>
    rw [q1] at hR
    cases q2 : newN L us with
    | false =>
     rw [q2] at hR hput
     go_wp2_with fail
     refine hput.out.mono ?_
     rintro e w5 ⟨rfl, hB5, g5⟩
     clear hB5
     go_wp2_with fail
     go_ret
     refine ⟨by rw [hR.out]; rfl, (hG.trans gA).trans' g5 (fun k hk e => absurd e (by omega))⟩
    | true =>
     rw [q2] at hR hput
     have ep : putL L us = L ++ [us] := by rw [putL, q2]; rfl
     rw [ep] at hput
     go_wp2_with fail
     refine hput.out.mono ?_
     rintro e w5 ⟨rfl, hB5, g5⟩
     replace hB5 := Lib.hid hB5
     go_wp2_with fail
     exact ⟨⟨i + 1, L ++ [us], hlt, by go_num, hR, hB5, Lib.hid (by have := hL.out; simp; omega), (hG.trans gA).trans' g5 (fun k hk e => absurd e (by omega))⟩, by simp [intOf]; omega⟩
  ·
   have hd : decide ((i : Int) < (m : Int)) = false := by simp; omega
   obtain rfl : i = m := by omega
   have hR' : Hid (r = false) := by
    have := hR.out
    show _ = _
    rw [this, List.drop_of_length_le (by rw [List.length_take]; omega)]; rfl
   clear hR
   go_wp2_with fail
   go_ret
   exact ⟨by rw [hR'.out]; rfl, hG⟩
end Go.Proofs.YtjedbfbolifjjaaGreatDoor
