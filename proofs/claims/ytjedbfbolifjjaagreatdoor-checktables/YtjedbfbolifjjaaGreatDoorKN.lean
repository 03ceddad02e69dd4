/-
  Questions that keep a state: anyPart of a closure that counts or gathers; crowded.
-/
import Derived.Test.YtjedbfbolifjjaaGreatDoorKA
set_option linter.unusedVariables false
set_option linter.unusedSimpArgs false
namespace Go.Proofs.YtjedbfbolifjjaaGreatDoor
open Go.RowKit Go.Maps
variable {W W' : World} {α : Type}
/-- A question with a state, asked of one part after the other until it says yes. -/
def goA (step : α → Tr → Bool × α) : α → List Tr → Bool × α
  | s, [] => (false, s)
  | s, T :: l => if (step s T).1 then (true, (step s T).2) else goA step (step s T).2 l
theorem goA_app (step : α → Tr → Bool × α) (a b : List Tr) : ∀ s, goA step s (a ++ b) = if (goA step s a).1 then (true, (goA step s a).2) else goA step (goA step s a).2 b := by
  induction a with
  | nil => intro s; simp [goA]
  | cons T l ih =>
    intro s
    simp only [List.cons_append, goA]
    by_cases h : (step s T).1 = true
    · simp [h]
    · simp [h, ih]
/-- What a question asks of each part ahead of its turn. -/
def okA (Q : α → Tr → Prop) (step : α → Tr → Bool × α) : α → List Tr → Prop
  | _, [] => True
  | s, T :: l => Q s T ∧ ((step s T).1 = false → okA Q step (step s T).2 l)
theorem okA_app (Q : α → Tr → Prop) (step : α → Tr → Bool × α) (a b : List Tr) : ∀ s, okA Q step s (a ++ b) → okA Q step s a ∧ ((goA step s a).1 = false → okA Q step (goA step s a).2 b) := by
  induction a with
  | nil => intro s h; exact ⟨trivial, fun _ => h⟩
  | cons T l ih =>
    intro s h
    obtain ⟨h1, h2⟩ := h
    by_cases h3 : (step s T).1 = true
    · refine ⟨⟨h1, fun e => by rw [h3] at e; cases e⟩, fun e => ?_⟩
      have : goA step s (T :: l) = (true, (step s T).2) := if_pos h3
      rw [this] at e; cases e
    · have h4 : (step s T).1 = false := by simpa using h3
      obtain ⟨h5, h6⟩ := ih _ (h2 h4)
      refine ⟨⟨h1, fun _ => h5⟩, fun e => ?_⟩
      have : goA step s (T :: l) = goA step (step s T).2 l := if_neg h3
      rw [this] at e ⊢
      exact h6 e
def SoS (N n : Nat) (caps : Array Value) (S : Nat → Prop) (In : α → World → Prop) (Q : α → Tr → Prop) (step : α → Tr → Bool × α) : Prop :=
  Ent n ∧ (∀ k, k < N → ¬ S k) ∧ ∀ (W : World) (s : α) (g o : Nat) (T : Tr), In s W → Q s T → TAtG N W g o T → g < N → N ≤ W.heap.size → Calls Tryz.prog n (#[ptr g o] ++ caps) W fun e w' => e = .returned (.bool (step s T).1) ∧ ((step s T).1 = false → In (step s T).2 w') ∧ Gr S W w'
def AnyS (N n : Nat) (caps : Array Value) (S : Nat → Prop) (In : α → World → Prop) (Q : α → Tr → Prop) (step : α → Tr → Bool × α) (T : Tr) : Prop := ∀ (W : World) (s : α) (g o : Nat), In s W → okA Q step s (preL [T]) → TAtG N W g o T → g < N → N ≤ W.heap.size →
  Calls Tryz.prog 42 #[ptr g o, .func (.func n) #[] caps] W fun e w' => e = .returned (.bool (goA step s (preL [T])).1) ∧ ((goA step s (preL [T])).1 = false → In (goA step s (preL [T])).2 w') ∧ Gr S W w'
set_option maxRecDepth 100000 in
set_option maxHeartbeats 1600000 in
theorem anys_node {N n : Nat} {caps : Array Value} {S : Nat → Prop} {In : α → World → Prop} {Q : α → Tr → Prop} {step : α → Tr → Bool × α} (hSo : SoS N n caps S In Q step) (k : Int) (s : ByteArray) (m : Int) (b : List Int) (l : List Tr) (hl : l.length ≤ 4611686018427387904) (ih : ∀ T ∈ l, AnyS N n caps S In Q step T) : AnyS N n caps S In Q step (.mk k s m b l) := by
  intro W a g o hI hok hT hg hN
  rw [preL_cons, preL_nil, List.append_nil] at hok
  obtain ⟨hQ, hok⟩ := hok
  obtain ⟨ba, bc, la, lc, ⟨x0, x1, x2, x3, x4⟩, hrow, hgl⟩ := hT.parts
  obtain ⟨hE, hSN, hcall⟩ := hSo
  have hc := hcall W a g o _ hI hQ hT hg hN
  have hlI : (l.length : Int) ≤ 4611686018427387904 := by omega
  have e0 : goA step a (preL [Tr.mk k s m b l]) = if (step a (.mk k s m b l)).1 then (true, (step a (.mk k s m b l)).2) else goA step (step a (.mk k s m b l)).2 (preL l) := by rw [preL_cons, preL_nil, List.append_nil]; rfl
  rw [e0]
  clear hcall e0
  replace hc := Lib.hid hc
  cases hP : step a (.mk k s m b l) with
  | mk bb a1 =>
  rw [hP] at hc hok
  cases bb with
  | true =>
    go_enter Tryz.func42, Tryz.ntmps42
    go_wp2_with fail
    rw [hE, Oper.upon_enter]
    refine hc.out.mono ?_
    rintro e w1 ⟨rfl, hI1, g1⟩
    replace hI1 := Lib.hid hI1
    go_wp2_with fail
    go_ret
    exact ⟨by simp, g1⟩
  | false =>
    have hst : Hid (∀ (i : Nat) (U : Tr), l[i]? = some U → goA step a1 (preL (l.take (i + 1))) = if (goA step a1 (preL (l.take i))).1 then (true, (goA step a1 (preL (l.take i))).2) else goA step (goA step a1 (preL (l.take i))).2 (preL [U])) := fun i U hU => by
      show _ = _
      rw [List.take_add_one, hU, preL_app, goA_app]; rfl
    have hsp : Hid (∀ i, goA step a1 (preL l) = if (goA step a1 (preL (l.take i))).1 then (true, (goA step a1 (preL (l.take i))).2) else goA step (goA step a1 (preL (l.take i))).2 (preL (l.drop i))) := fun i => by
      show _ = _
      rw [← goA_app, ← preL_app, List.take_append_drop]
    replace hok := Lib.hid (hok rfl)
    replace ih := Lib.hid ih
    replace hrow := Lib.hid hrow
    replace hSN := Lib.hid hSN
    clear hI
    go_enter Tryz.func42, Tryz.ntmps42
    go_wp2_with fail
    rw [hE, Oper.upon_enter]
    refine hc.out.mono ?_
    rintro e w1 ⟨rfl, hI1, g1⟩
    have y4 := cell_gr x4 g1 (hSN.out g hg)
    have hs1 := g1.size
    have hg1 : g < w1.heap.size := by omega
    replace hI1 := Lib.hid hI1
    clear x0 x1 x2 x3 hT hc
    go_wp2_with fail
    go_loopw [14] (fun u wr => ∃ i : Nat, i ≤ l.length ∧ u = .int .i64 (i : Int) ∧ Hid ((goA step a1 (preL (l.take i))).1 = false) ∧ Hid (In (goA step a1 (preL (l.take i))).2 wr) ∧ Gr S W wr) (fun u _ => l.length - (intOf u).toNat)
    case atStart => exact ⟨0, Nat.zero_le _, rfl, by show _ = _; rw [List.take_zero, preL_nil]; rfl, by show In _ _; rw [List.take_zero, preL_nil]; exact hI1.out (by first | rfl | trivial), g1⟩
    case round =>
      obtain ⟨i, hi, rfl, hno, hIi, hG⟩ := hrel
      by_cases hlt : i < l.length
      · have hd : decide ((i : Int) < (l.length : Int)) = true := by simp; omega
        have hTi : l[i]? = some l[i] := List.getElem?_eq_getElem hlt
        obtain ⟨g', o', rfl, hg', hTA⟩ := hrow.out i _ hTi
        have hst' := hst.out i _ hTi
        rw [hno.out] at hst'
        have hoi : okA Q step (goA step a1 (preL (l.take i))).2 (preL [l[i]]) := by
          have e : preL l = preL (l.take i) ++ (preL [l[i]] ++ preL (l.drop (i + 1))) := by
            rw [← preL_app, ← preL_app]
            congr 1
            rw [List.singleton_append, List.getElem_cons_drop, List.take_append_drop]
          have h1 := hok.out
          rw [e] at h1
          exact (okA_app Q step _ _ _ ((okA_app Q step _ _ _ h1).2 hno.out)).1
        have hci := ih.out l[i] (List.getElem_mem hlt) wr _ g' (o' + i * 5) hIi.out hoi (hTA.gr hG hSN.out hg') hg' (Nat.le_trans hN hG.size)
        rw [← show goA step a1 (preL (l.take (i + 1))) = goA step (goA step a1 (preL (l.take i))).2 (preL [l[i]]) from hst'] at hci
        have hsp' := Lib.hid (hsp.out (i + 1))
        clear hst' hoi
        generalize l[i] = U at *
        have z4 := cell_gr x4 hG (hSN.out g hg)
        have hsz := hG.size
        have hgw : g < wr.heap.size := by omega
        have hgw' : g' < wr.heap.size := by omega
        have hb := Lib.hid hi
        cases hU : goA step a1 (preL (l.take (i + 1))) with
        | mk bu a2 =>
        rw [hU] at hci
        replace hci := Lib.hid hci
        replace hU := Lib.hid hU
        clear hTA hTi y4
        go_wp2_with fail
        refine hci.out.mono ?_
        rintro e w4 ⟨rfl, hI4, g4⟩
        replace hI4 := Lib.hid hI4
        cases bu with
        | true =>
          go_wp2_with fail
          go_ret
          have e2 := hsp'.out
          rw [hU.out] at e2
          refine ⟨?_, ?_, hG.trans g4⟩
          · rw [e2]; rfl
          · rw [e2]; intro h; cases h
        | false =>
          go_wp2_with fail
          exact ⟨⟨i + 1, hlt, by go_num, by show _ = _; rw [hU.out], by show In _ _; rw [hU.out]; exact hI4.out (by first | rfl | trivial), hG.trans g4⟩, by simp [intOf]; omega⟩
      · have hd : decide ((i : Int) < (l.length : Int)) = false := by simp; omega
        obtain rfl : i = l.length := by omega
        go_wp2_with fail
        go_ret
        have h1 := hno.out
        have h2 := hIi.out
        rw [List.take_length] at h1 h2
        exact ⟨by rw [h1]; rfl, fun _ => h2, hG⟩
theorem anys_c {N n : Nat} {caps : Array Value} {S : Nat → Prop} {In : α → World → Prop} {Q : α → Tr → Prop} {step : α → Tr → Bool × α} (hSo : SoS N n caps S In Q step) (T : Tr) : Szs [T] → AnyS N n caps S In Q step T :=
  Tr.rec (motive_1 := fun T => Szs [T] → AnyS N n caps S In Q step T) (motive_2 := fun l => Szs l → ∀ T ∈ l, AnyS N n caps S In Q step T)
    (fun k s m b l ih hs => by
      have h1 : l.length ≤ 4611686018427387904 := (hs (.mk k s m b l) (by rw [preL_cons]; simp)).2
      refine anys_node hSo k s m b l h1 (ih (fun U hU => hs U ?_))
      rw [preL_cons]; simp [hU])
    (fun _ T h => by cases h)
    (fun T l h1 h2 hs U hU => by
      have e : preL (T :: l) = preL [T] ++ preL l := preL_app [T] l
      rcases List.mem_cons.1 hU with rfl | hU
      · exact h1 (fun V hV => hs V (by rw [e]; simp [hV]))
      · exact h2 (fun V hV => hs V (by rw [e]; simp [hV])) U hU) T
theorem okA_true (step : α → Tr → Bool × α) (l : List Tr) : ∀ s, okA (fun _ _ => True) step s l := by
  induction l with
  | nil => intro s; trivial
  | cons T l ih => intro s; exact ⟨trivial, fun _ => ih _⟩
def cnt (c : Nat) (_ : Tr) : Bool × Nat := (decide (4000 < c + 1), c + 1)
theorem cnt_go (l : List Tr) : ∀ c, c ≤ 4000 → (goA cnt c l).1 = decide (4000 < c + l.length) := by
  induction l with
  | nil => intro c hc; simp [goA]; omega
  | cons T l ih =>
    intro c hc
    have e : goA cnt c (T :: l) = if (cnt c T).1 = true then (true, (cnt c T).2) else goA cnt (cnt c T).2 l := rfl
    by_cases h : 4000 < c + 1
    · have h1 : (cnt c T).1 = true := decide_eq_true h
      rw [e, if_pos h1, List.length_cons]
      exact (decide_eq_true (by omega)).symm
    · have h1 : ¬ (cnt c T).1 = true := by simp [cnt]; omega
      rw [e, if_neg h1, List.length_cons]
      show (goA cnt (c + 1) l).1 = _
      rw [ih (c + 1) (by omega)]
      congr 1
      apply propext
      constructor <;> intro <;> omega
def Cn (b c : Nat) (W : World) : Prop := W.heap[b]? = some (.cells #[.int .i64 (c : Int)] 3 (0, 0)) ∧ c ≤ 4000
set_option maxRecDepth 100000 in
set_option maxHeartbeats 1600000 in
theorem count_c (W : World) (b c g o : Nat) (h : Cn b c W) : Calls Tryz.prog 66 #[ptr g o, ptr b 0] W fun e w' => e = .returned (.bool (decide (4000 < c + 1))) ∧ (decide (4000 < c + 1) = false → Cn b (c + 1) w') ∧ Gr (fun k => k = b) W w' := by
  obtain ⟨hb, hc⟩ := h
  have hcI : (c : Int) ≤ 4000 := by omega
  have hb1 := (Array.getElem?_eq_some_iff.1 hb).1
  have he : decide ((4000 : Int) < (c : Int) + 1) = decide (4000 < c + 1) := by congr 1; apply propext; constructor <;> intro <;> omega
  have gg : Gr (fun k => k = b) W (W.setCell ⟨b, 0, none⟩ (.int .i64 ((c : Int) + 1))) := Gr.set _ _ _ rfl
  have h1 : (W.setCell ⟨b, 0, none⟩ (.int .i64 ((c : Int) + 1))).heap[b]? = some (.cells #[.int .i64 ((c : Int) + 1)] 3 (0, 0)) := heap_setCell_same W b 0 _ 3 _ hb
  have x0 : W.cell? ⟨b, 0, none⟩ = some (.int .i64 (c : Int)) := by simp [World.cell?, hb]
  have x1 : (W.setCell ⟨b, 0, none⟩ (.int .i64 ((c : Int) + 1))).cell? ⟨b, 0, none⟩ = some (.int .i64 ((c : Int) + 1)) := by simp [World.cell?, h1]
  have hf : W.frozen? ⟨b, 0, none⟩ = false := by simp [World.frozen?, hb]
  replace hc := Lib.hid hc
  replace h1 := Lib.hid h1
  go_enter Tryz.func66, Tryz.ntmps66
  go_wp2_with fail
  go_ret
  refine ⟨rfl, fun h => ⟨?_, ?_⟩, gg⟩
  · have := h1.out
    simpa using this
  · have := hc.out; simp at h; omega
theorem cnt_so (N b : Nat) (hb : N ≤ b) : SoS N 66 #[ptr b 0] (fun k => k = b) (fun c W => Cn b c W) (fun _ _ => True) cnt :=
  ⟨ent_of Tryz.func66 (by kernel_rfl) rfl, fun k hk e => by omega, fun W c g o T hI _ _ _ _ => count_c W b c g o hI⟩
def crowdV (T : Tr) : Bool := decide (4000 < (preL [T]).length)
set_option maxRecDepth 100000 in
set_option maxHeartbeats 1600000 in
theorem crowded_c (N : Nat) (T : Tr) (hs : Szs [T]) (W : World) (g o : Nat) (hT : TAtG N W g o T) (hg : g < N) (hN : N ≤ W.heap.size) : Calls Tryz.prog 44 #[ptr g o] W fun e w' => e = .returned (.bool (crowdV T)) ∧ Gr (fun _ => False) W w' := by
  have hA := Gr.alloc W (.cells #[.int .i64 0] 3 (0, 0)) (fun _ => False)
  have hq := anys_c (cnt_so N W.heap.size hN) T hs
  have hn : (goA cnt 0 (preL [T])).1 = crowdV T := by rw [cnt_go _ 0 (by omega), Nat.zero_add]; rfl
  have hI : Cn W.heap.size 0 (W.alloc (.cells #[.int .i64 0] 3 (0, 0))) := ⟨heap_alloc_new W _, by omega⟩
  have hc := hq _ 0 g o hI (okA_true _ _ _) (hT.g0 hA hg) hg (Nat.le_trans hN hA.size)
  rw [hn] at hc
  replace hc := Lib.hid hc
  clear hI hq hT hn
  go_enter Tryz.func44, Tryz.ntmps44
  go_wp2_with fail
  refine hc.out.mono ?_
  rintro e w1 ⟨rfl, _, g1⟩
  go_wp2_with fail
  go_ret
  exact ⟨rfl, hA.trans' g1 (fun k hk e => absurd e (by omega))⟩
end Go.Proofs.YtjedbfbolifjjaaGreatDoor
