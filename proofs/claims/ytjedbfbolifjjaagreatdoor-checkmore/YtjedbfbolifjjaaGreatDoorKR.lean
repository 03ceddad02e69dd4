/-
  The walk that gathers a function's names.
-/
import Derived.Test.YtjedbfbolifjjaaGreatDoorKN
import Derived.Test.YtjedbfbolifjjaaGreatDoorGQ
set_option linter.unusedVariables false
set_option linter.unusedSimpArgs false
namespace Go.Proofs.YtjedbfbolifjjaaGreatDoor
open Go.RowKit Go.Maps
variable {W W' : World}
abbrev wkS (uL uS uN uW : Nat) : Value := .func (.func 36) #[] #[ptr uL 0, ptr uS 0, ptr uN 0, ptr uW 0]
/-- What the walk keeps. -/
structure Sk (N uL uS uN uW mb base : Nat) (W : World) (c : Nat) (v : Value) (L : List ByteArray) : Prop where
 left : W.heap[uL]? = some (.cells #[.int .i64 (c : Int)] 3 (0, 0))
 seen : W.heap[uS]? = some (.cells #[.map (some mb)] 66 (0, 0))
 nam : W.heap[uN]? = some (.cells #[v] 39 (0, 0))
 fn : W.heap[uW]? = some (.cells #[wkS uL uS uN uW] 67 (0, 0))
 bd : Bd W mb L
 row : Ns base W v L
 ord : N ≤ uN ∧ uN < mb ∧ mb < uS ∧ uS < uL ∧ uL < uW ∧ uW < base
abbrev SK (uL uN mb base : Nat) (k : Nat) : Prop := k = uL ∨ k = uN ∨ k = mb ∨ base ≤ k
abbrev slL (L : List ByteArray) (l : List Tr) : List ByteArray := (goA pst L (preL l)).2
def SlOk (N : Nat) (l : List Tr) : Prop := ∀ (W : World) (la : Option Addr) (lc uL uS uN uW mb base c d : Nat) (v : Value) (L : List ByteArray), RowAt N W la l → Sk N uL uS uN uW mb base W c v L → (preL l).length < c → c ≤ 2147483647 → d + (preL l).length ≤ 65537 → L.length + (preL l).length ≤ 39999 →
 Calls Tryz.prog 36 #[.slice la l.length lc, .int .i64 (d : Int), ptr uL 0, ptr uS 0, ptr uN 0, ptr uW 0] W fun e w' => e = .returned (.tuple #[]) ∧ ∃ v', Sk N uL uS uN uW mb base w' (c - (preL l).length) v' (slL L l) ∧ Gr (SK uL uN mb base) W w'
theorem RowAt.gr {N : Nat} {la : Option Addr} {l : List Tr} {S : Nat → Prop} (h : RowAt N W la l) (gr : Gr S W W') (hs : ∀ k, k < N → ¬ S k) : RowAt N W' la l := fun i T hi => by
 obtain ⟨g, o, h1, h2, h3⟩ := h i T hi
 exact ⟨g, o, h1, h2, h3.gr gr hs h2⟩
theorem slL_len (l : List Tr) : ∀ L : List ByteArray, (goA pst L l).2.length ≤ L.length + l.length := by
 induction l with
 | nil => intro L; simp [goA]
 | cons T l ih =>
  intro L
  have h1 := pst_len L T
  have e : goA pst L (T :: l) = goA pst (pst L T).2 l := by
   obtain ⟨k, s, n, b, q⟩ := T
   exact if_neg (by simp [pst])
  rw [e, List.length_cons]
  have := ih (pst L T).2
  omega
theorem slL_app (L : List ByteArray) (a b : List Tr) : slL L (a ++ b) = slL (slL L a) b := by
 show (goA pst L (preL (a ++ b))).2 = _
 rw [preL_app, goA_app, pst_no]; rfl
theorem slL_one (L : List ByteArray) (k : Int) (s : ByteArray) (n : Int) (b : List Int) (q : List Tr) : slL L [.mk k s n b q] = slL (if k = 3 then putL L s else L) q := by
 show (goA pst L (preL [.mk k s n b q])).2 = _
 rw [preL_cons, preL_nil, List.append_nil]
 show (if (pst L (.mk k s n b q)).1 = true then _ else goA pst (pst L (.mk k s n b q)).2 (preL q)).2 = _
 rw [if_neg (by simp [pst])]; rfl
abbrev S5 (uS mb g o : Nat) (k : Int) (s : ByteArray) (w : World) : Prop := w.cell? ⟨uS, 0, none⟩ = some (.map (some mb)) ∧ w.cell? ⟨g, o, none⟩ = some (.int .i64 k) ∧ w.cell? ⟨g, o + 1, none⟩ = some (.string s)
abbrev S7 (uL uS uN uW g o : Nat) (v : Value) (w : World) : Prop := w.cell? ⟨uW, 0, none⟩ = some (wkS uL uS uN uW) ∧ w.cell? ⟨g, o + 4, none⟩ = some v
abbrev S6 (uN g o : Nat) (v : Value) (s : ByteArray) (w : World) : Prop := w.cell? ⟨uN, 0, none⟩ = some v ∧ w.cell? ⟨g, o + 1, none⟩ = some (.string s) ∧ g < w.heap.size
set_option maxRecDepth 100000 in
set_option maxHeartbeats 4000000 in
theorem sl_node (N : Nat) (l : List Tr) (hs : Szs l) (ih : ∀ T ∈ l, SlOk N T.l) : SlOk N l := by
 intro W la lc uL uS uN uW mb base c d v L hrow hSk hc hc1 hd hLl
 obtain ⟨o1, o2, o3, o4, o5, o6⟩ := hSk.ord
 have hsz : ∀ i U, l[i]? = some U → szT U := fun i U hi => hs U (by
  obtain ⟨p, q, rfl⟩ := List.append_of_mem (List.mem_of_getElem? hi)
  rw [preL_app, show U :: q = [U] ++ q from rfl, preL_app]
  obtain ⟨uk, us, un, ub, ul⟩ := U
  rw [preL_cons]; simp)
 have hpre : ∀ i U, l[i]? = some U → (preL (l.take (i + 1))).length = (preL (l.take i)).length + 1 + (preL U.l).length ∧ (preL (l.take (i + 1))).length ≤ (preL l).length ∧ i ≤ (preL (l.take i)).length := fun i U hi => by
  have e1 : l.take (i + 1) = l.take i ++ [U] := by rw [List.take_add_one, hi]; rfl
  obtain ⟨uk, us, un, ub, ul⟩ := U
  refine ⟨by rw [e1, preL_app, preL_cons, preL_nil]; simp; omega, ?_, ?_⟩
  · have e2 : (preL l).length = (preL (l.take (i + 1))).length + (preL (l.drop (i + 1))).length := by rw [← List.length_append, ← preL_app, List.take_append_drop]
    omega
  ·
   have hl2 : ∀ q : List Tr, q.length ≤ (preL q).length := fun q => by
    induction q with
    | nil => exact Nat.zero_le _
    | cons T q iq => obtain ⟨a1, a2, a3, a4, a5⟩ := T; rw [preL_cons]; simp; omega
   have := hl2 (l.take i)
   rw [List.length_take] at this
   have := (List.getElem?_eq_some_iff.1 hi).1
   omega
 have hstp : ∀ i U, l[i]? = some U → slL L (l.take (i + 1)) = slL (slL L (l.take i)) [U] := fun i U hi => by
  rw [← slL_app]; congr 2; rw [List.take_add_one, hi]; rfl
 have hlenL : ∀ i, (slL L (l.take i)).length ≤ L.length + (preL (l.take i)).length := fun i => slL_len _ _
 have hLn : l.length ≤ 65537 := by
  have hl2 : ∀ q : List Tr, q.length ≤ (preL q).length := fun q => by
   induction q with
   | nil => exact Nat.zero_le _
   | cons T q iq => obtain ⟨a1, a2, a3, a4, a5⟩ := T; rw [preL_cons]; simp; omega
  have := hl2 l
  omega
 have hlI : (l.length : Int) ≤ 65537 := by omega
 replace hrow := Lib.hid hrow
 replace ih := Lib.hid ih
 replace hsz := Lib.hid hsz
 replace hpre := Lib.hid hpre
 replace hstp := Lib.hid hstp
 replace hlenL := Lib.hid hlenL
 replace hc := Lib.hid hc
 replace hc1 := Lib.hid hc1
 replace hd := Lib.hid hd
 replace hLl := Lib.hid hLl
 replace hLn := Lib.hid hLn
 clear hs
 have hS0 : Hid (Sk N uL uS uN uW mb base W (c - (preL (l.take 0)).length) v (slL L (l.take 0))) := by
  show Sk N uL uS uN uW mb base W (c - (preL (l.take 0)).length) v (goA pst L (preL (l.take 0))).2
  rw [List.take_zero, preL_nil]
  exact hSk
 clear hSk
 go_enter Tryz.func36, Tryz.ntmps36
 go_wp2_with fail
 go_loopw [11] (fun u wr => ∃ (i : Nat) (v' : Value), i ≤ l.length ∧ u = .int .i64 (i : Int) ∧ Hid (Sk N uL uS uN uW mb base wr (c - (preL (l.take i)).length) v' (slL L (l.take i))) ∧ Gr (SK uL uN mb base) W wr) (fun u _ => l.length - (intOf u).toNat)
 case atStart => exact ⟨0, v, Nat.zero_le _, rfl, hS0, Gr.refl _ _⟩
 case round =>
  obtain ⟨i, v', hi, rfl, hP, hG⟩ := hrel
  by_cases hlt : i < l.length
  ·
   have h1 : decide ((i : Int) < (l.length : Int)) = true := by simp; omega
   have hTi : l[i]? = some l[i] := List.getElem?_eq_getElem hlt
   obtain ⟨g', o', rfl, hg', hTA⟩ := hrow.out i _ hTi
   have hAi := ih.out l[i] (List.getElem_mem hlt)
   have hst := hstp.out i _ hTi
   have hszi := hsz.out i _ hTi
   obtain ⟨hp1, hp2, hp3⟩ := hpre.out i _ hTi
   have hP' := hP.out
   have hll := hlenL.out i
   generalize l[i] = U at hTA hAi hst hszi hp1
   obtain ⟨uk, us, un, ub, ul⟩ := U
   have hSn : ∀ k, k < N → ¬ SK uL uN mb base k := fun k hk => by rintro (e | e | e | e) <;> omega
   obtain ⟨ba', bc', la', lc', ⟨y0, y1, y2, y3, y4⟩, hrow', hgl'⟩ := (hTA.gr hG hSn hg').parts
   rw [slL_one] at hst
   have hs' : us.size ≤ 140737488351232 := hszi.1
   have hcc := hc.out
   have hcc1 := hc1.out
   have hdd := hd.out
   have hLL := hLl.out
   obtain ⟨ci, hci⟩ : ∃ ci, c - (preL (l.take i)).length = ci + 1 := ⟨c - (preL (l.take i)).length - 1, by omega⟩
   have hce : c - (preL (l.take (i + 1))).length = ci - (preL ul).length := by rw [hp1]; dsimp only; omega
   dsimp only at hp1 hAi
   generalize slL L (l.take i) = Li at hP' hst hll
   rw [hci] at hP'
   have hz : (((ci + 1 : Nat) : Int) == 0) = false := by simp; omega
   have hdI : decide ((65536 : Int) < (d : Int)) = false := by simp; omega
   have hciI : (ci : Int) ≤ 2147483647 := by omega
   have hdI2 : (d : Int) ≤ 65536 := by omega
   have hs1 : (((ci + 1 : Nat) : Int) - 1) = (ci : Int) := by omega
   have hb1 : ci > (preL ul).length := by omega
   have hb2 : (d + 1) + (preL ul).length ≤ 65537 := by omega
   have hb3 : Li.length + 1 + (preL ul).length ≤ 39999 := by omega
   obtain ⟨d0, d1, d2⟩ := one_cell hP'.left
   have gL : Gr (fun k => k = uL) wr (wr.setCell ⟨uL, 0, none⟩ (.int .i64 (ci : Int))) := Gr.set _ _ _ rfl
   have hL1 : (wr.setCell ⟨uL, 0, none⟩ (.int .i64 (ci : Int))).heap[uL]? = some (.cells #[.int .i64 (ci : Int)] 3 (0, 0)) := heap_setCell_same wr uL 0 _ 3 _ hP'.left
   have hP1 : Sk N uL uS uN uW mb base (wr.setCell ⟨uL, 0, none⟩ (.int .i64 (ci : Int))) ci v' Li :=
    ⟨hL1, gL.keep hP'.seen (by omega), gL.keep hP'.nam (by omega), gL.keep hP'.fn (by omega), hP'.bd.gr gL (by omega), hP'.row.gr gL (fun k hk => by omega), hP'.ord⟩
   obtain ⟨w1, hw1⟩ : ∃ w, w = wr.setCell ⟨uL, 0, none⟩ (.int .i64 (ci : Int)) := ⟨_, rfl⟩
   rw [← hw1] at hP1 gL
   replace hw1 := Lib.hid hw1
   have y0' := cell_gr y0 gL (by omega)
   have y1' := cell_gr y1 gL (by omega)
   have y4' := cell_gr y4 gL (by omega)
   have hgw' : g' < wr.heap.size := hgl'
   have hgw1 : g' < w1.heap.size := by have := gL.size; omega
   have hr1 := hrow'.gr gL (fun k hk => by omega)
   rw [show ((ci + 1 : Nat) : Int) = (ci : Int) + 1 by omega] at d0 hz
   have hwr : Hid (IntKind.i64.wrap ((d : Int) + 1) = (d : Int) + 1) := by show _ = _; rw [IntKind.wrap_i64]; omega
   replace hb1 := Lib.hid hb1
   replace hb2 := Lib.hid hb2
   replace hb3 := Lib.hid hb3
   replace hP' := Lib.hid hP'
   replace hAi := Lib.hid hAi
   replace hst := Lib.hid hst
   replace hce := Lib.hid hce
   replace hr1 := Lib.hid hr1
   clear hTA hTi hrow' y0 y1 y2 y3 y4 hszi hcc hcc1 hdd hLL hp1 hp2 hp3 hll hci hL1 hs1
   by_cases hk : uk = 3
   ·
    subst hk
    have TS : S5 uS mb g' (o' + i * 5) 3 us w1.drew := ⟨(one_cell hP1.seen).1, y0', y1'⟩
    have hput := put_c w1.drew mb Li us (hP1.bd.gr (Gr.drew w1 (fun _ => False)) (fun e => e)) hs' (by have := hb3.out; omega)
    replace hP1 := Lib.hid hP1
    cases q : newN Li us with
    | false =>
     have ep : putL Li us = Li := by rw [putL, q]; rfl
     rw [q, ep] at hput
     replace hput := Lib.hid hput
     go_wp2_with fail
     rw [← hw1.out]
     refine wp_region_L (L := 100) (T := S5 uS mb g' (o' + i * 5) 3 us) (by kernel_rfl) ?_
     refine wpAnyN_at (i := 0) (v := (.slice (some ⟨g', o', none⟩) l.length lc)) (some 22) rfl rfl (by kernel_rfl) (by kernel_rfl) (by kernel_rfl) (by kernel_rfl) (fun _ _ _ h => h) (Or.inl ⟨by rfl, ?_⟩) TS ?_
     · intro w hSw
       obtain ⟨hs1, hs2, hs3⟩ := hSw
       go_simp
     try simp only [Act.put, sa1, sa2, sa3]
     refine wpAnyN_at (i := 1) (v := .int .i64 (i : Int)) (some 23) rfl rfl (by kernel_rfl) (by kernel_rfl) (by kernel_rfl) (by kernel_rfl) (fun _ _ _ h => h) (Or.inl ⟨by rfl, ?_⟩) TS ?_
     · intro w hSw
       obtain ⟨hs1, hs2, hs3⟩ := hSw
       go_simp
     try simp only [Act.put, sa1, sa2, sa3]
     refine wpAnyN_at (i := 2) (v := ptr g' (o' + i * 5)) (some 24) rfl rfl (by kernel_rfl) (by kernel_rfl) (by kernel_rfl) (by kernel_rfl) (fun _ _ _ h => h) (Or.inl ⟨by rfl, ?_⟩) TS ?_
     · intro w hSw
       obtain ⟨hs1, hs2, hs3⟩ := hSw
       go_simp
     try simp only [Act.put, sa1, sa2, sa3]
     refine wpAnyN_at (i := 3) (v := ptr g' (o' + i * 5)) (some 25) rfl rfl (by kernel_rfl) (by kernel_rfl) (by kernel_rfl) (by kernel_rfl) (fun _ _ _ h => h) (Or.inl ⟨by rfl, ?_⟩) TS ?_
     · intro w hSw
       obtain ⟨hs1, hs2, hs3⟩ := hSw
       go_simp
     try simp only [Act.put, sa1, sa2, sa3]
     refine wpAnyN_at (i := 4) (v := .int .i64 3) (some 26) rfl rfl (by kernel_rfl) (by kernel_rfl) (by kernel_rfl) (by kernel_rfl) (fun _ _ _ h => h) (Or.inl ⟨by rfl, ?_⟩) TS ?_
     · intro w hSw
       obtain ⟨hs1, hs2, hs3⟩ := hSw
       go_simp
     try simp only [Act.put, sa1, sa2, sa3]
     refine wpAnyN_at (i := 5) (v := .bool true) (some 27) rfl rfl (by kernel_rfl) (by kernel_rfl) (by kernel_rfl) (by kernel_rfl) (fun _ _ _ h => h) (Or.inl ⟨by rfl, ?_⟩) TS ?_
     · intro w hSw
       obtain ⟨hs1, hs2, hs3⟩ := hSw
       go_simp
     try simp only [Act.put, sa1, sa2, sa3]
     refine wpAnyN_at (i := 6) (v := .bool true) (some 28) rfl rfl (by kernel_rfl) (by kernel_rfl) (by kernel_rfl) (by kernel_rfl) (fun _ _ _ h => h) (Or.inl ⟨by rfl, ?_⟩) TS ?_
     · intro w hSw
       obtain ⟨hs1, hs2, hs3⟩ := hSw
       go_simp
     try simp only [Act.put, sa1, sa2, sa3]
     refine wpAnyN_at (i := 7) (v := .map (some mb)) (some 29) rfl rfl (by kernel_rfl) (by kernel_rfl) (by kernel_rfl) (by kernel_rfl) (fun _ _ _ h => h) (Or.inl ⟨by rfl, ?_⟩) TS ?_
     · intro w hSw
       obtain ⟨hs1, hs2, hs3⟩ := hSw
       go_simp
     try simp only [Act.put, sa1, sa2, sa3]
     refine wpAnyN_at (i := 8) (v := (.slice (some ⟨g', o', none⟩) l.length lc)) (some 30) rfl rfl (by kernel_rfl) (by kernel_rfl) (by kernel_rfl) (by kernel_rfl) (fun _ _ _ h => h) (Or.inl ⟨by rfl, ?_⟩) TS ?_
     · intro w hSw
       obtain ⟨hs1, hs2, hs3⟩ := hSw
       go_simp
     try simp only [Act.put, sa1, sa2, sa3]
     refine wpAnyN_at (i := 9) (v := .int .i64 (i : Int)) (some 31) rfl rfl (by kernel_rfl) (by kernel_rfl) (by kernel_rfl) (by kernel_rfl) (fun _ _ _ h => h) (Or.inl ⟨by rfl, ?_⟩) TS ?_
     · intro w hSw
       obtain ⟨hs1, hs2, hs3⟩ := hSw
       go_simp
     try simp only [Act.put, sa1, sa2, sa3]
     refine wpAnyN_at (i := 10) (v := ptr g' (o' + i * 5)) (some 32) rfl rfl (by kernel_rfl) (by kernel_rfl) (by kernel_rfl) (by kernel_rfl) (fun _ _ _ h => h) (Or.inl ⟨by rfl, ?_⟩) TS ?_
     · intro w hSw
       obtain ⟨hs1, hs2, hs3⟩ := hSw
       go_simp
     try simp only [Act.put, sa1, sa2, sa3]
     refine wpAnyN_at (i := 11) (v := ptr g' ((o' + i * 5) + 1)) (some 33) rfl rfl (by kernel_rfl) (by kernel_rfl) (by kernel_rfl) (by kernel_rfl) (fun _ _ _ h => h) (Or.inl ⟨by rfl, ?_⟩) TS ?_
     · intro w hSw
       obtain ⟨hs1, hs2, hs3⟩ := hSw
       go_simp
     try simp only [Act.put, sa1, sa2, sa3]
     refine wpAnyN_at (i := 12) (v := .string us) (some 34) rfl rfl (by kernel_rfl) (by kernel_rfl) (by kernel_rfl) (by kernel_rfl) (fun _ _ _ h => h) (Or.inl ⟨by rfl, ?_⟩) TS ?_
     · intro w hSw
       obtain ⟨hs1, hs2, hs3⟩ := hSw
       go_simp
     try simp only [Act.put, sa1, sa2, sa3]
     refine wpAnyL_one (i := 13) (by kernel_rfl) rfl (fun K hK => ?_)
     go_simp
     refine hput.out.mono ?_
     rintro e w3 ⟨rfl, hB3, g3⟩
     have TS : S5 uS mb g' (o' + i * 5) 3 us w3 := ⟨cell_gr TS.1 g3 (by omega), cell_gr TS.2.1 g3 (by omega), cell_gr TS.2.2 g3 (by omega)⟩
     refine hK.out _ _ (fun _ => TS) ?_
     clear hK K
     try simp only [Act.put, sa1, sa2, sa3]
     refine wpAnyL_one (i := 14) (by kernel_rfl) rfl (fun K hK => ?_)
     go_simp
     refine hK.out _ _ (fun _ => TS) ?_
     clear hK K
     try simp only [Act.put, sa1, sa2, sa3]
     refine wpAnyL_done (by kernel_rfl) ?_ _
     refine NoPanic.normal ?_
     have g31 := (Gr.drew w1 (fun k => k = mb)).trans g3
     have hP3 : Sk N uL uS uN uW mb base w3 ci v' Li := by
      have h := hP1.out
      exact ⟨g31.keep h.left (by omega), g31.keep h.seen (by omega), g31.keep h.nam (by omega), g31.keep h.fn (by omega), hB3, h.row.gr g31 (fun k hk => by omega), h.ord⟩
     have Y3 := cell_gr y4' g31 (by omega)
     have Y4 : w3.drew.cell? ⟨g', o' + i * 5 + 4, none⟩ = some (.slice la' ul.length lc') := Y3
     have R4 := (hr1.out.gr g31 (fun k hk => by omega)).g0 (Gr.drew w3 _)
     have hLn2 : Li.length ≤ Li.length + 1 := by omega
     replace hP3 := Lib.hid hP3
     clear hB3
     have hPd : Sk N uL uS uN uW mb base (w3).drew ci v' Li := by
      have h := hP3.out
      have gd := Gr.drew (w3) (fun _ => False)
      exact ⟨h.left, h.seen, h.nam, h.fn, h.bd.gr gd (fun e => e), h.row.g0 gd, h.ord⟩
     have T7 : S7 uL uS uN uW g' (o' + i * 5) (.slice la' ul.length lc') (w3).drew := ⟨(one_cell hPd.fn).1, Y4⟩
     obtain ⟨t0, t1⟩ := T7
     have T7 : S7 uL uS uN uW g' (o' + i * 5) (.slice la' ul.length lc') (w3).drew := ⟨t0, t1⟩
     have hcall := hAi.out (w3).drew la' lc' uL uS uN uW mb base ci (d + 1) v' Li R4 hPd hb1.out (by omega) hb2.out (by have := hb3.out; have := hLn2; omega)
     rw [show ((d + 1 : Nat) : Int) = (d : Int) + 1 by omega] at hcall
     replace hcall := Lib.hid hcall
     have G7 : Gr (SK uL uN mb base) W (w3).drew := (((hG.trans (gL.mono (fun k _ e => .inl e)))).trans (g31.mono (fun k _ e => .inr (.inr (.inl e))))).trans (Gr.drew _ _)
     clear hPd
     go_wp2_with fail
     refine wp_region_L (L := 100) (T := S7 uL uS uN uW g' (o' + i * 5) (.slice la' ul.length lc')) (by kernel_rfl) ?_
     refine wpAnyN_at (i := 0) (v := wkS uL uS uN uW) (some 46) rfl rfl (by kernel_rfl) (by kernel_rfl) (by kernel_rfl) (by kernel_rfl) (fun _ _ _ h => h) (Or.inl ⟨by rfl, ?_⟩) T7 ?_
     · intro w hSw
       obtain ⟨hs1, hs2⟩ := hSw
       go_simp
     try simp only [Act.put, sa1, sa2, sa3]
     refine wpAnyN_at (i := 1) (v := (.slice (some ⟨g', o', none⟩) l.length lc)) (some 47) rfl rfl (by kernel_rfl) (by kernel_rfl) (by kernel_rfl) (by kernel_rfl) (fun _ _ _ h => h) (Or.inl ⟨by rfl, ?_⟩) T7 ?_
     · intro w hSw
       obtain ⟨hs1, hs2⟩ := hSw
       go_simp
     try simp only [Act.put, sa1, sa2, sa3]
     refine wpAnyN_at (i := 2) (v := .int .i64 (i : Int)) (some 48) rfl rfl (by kernel_rfl) (by kernel_rfl) (by kernel_rfl) (by kernel_rfl) (fun _ _ _ h => h) (Or.inl ⟨by rfl, ?_⟩) T7 ?_
     · intro w hSw
       obtain ⟨hs1, hs2⟩ := hSw
       go_simp
     try simp only [Act.put, sa1, sa2, sa3]
     refine wpAnyN_at (i := 3) (v := ptr g' (o' + i * 5)) (some 49) rfl rfl (by kernel_rfl) (by kernel_rfl) (by kernel_rfl) (by kernel_rfl) (fun _ _ _ h => h) (Or.inl ⟨by rfl, ?_⟩) T7 ?_
     · intro w hSw
       obtain ⟨hs1, hs2⟩ := hSw
       go_simp
     try simp only [Act.put, sa1, sa2, sa3]
     refine wpAnyN_at (i := 4) (v := ptr g' ((o' + i * 5) + 4)) (some 50) rfl rfl (by kernel_rfl) (by kernel_rfl) (by kernel_rfl) (by kernel_rfl) (fun _ _ _ h => h) (Or.inl ⟨by rfl, ?_⟩) T7 ?_
     · intro w hSw
       obtain ⟨hs1, hs2⟩ := hSw
       go_simp
     try simp only [Act.put, sa1, sa2, sa3]
     refine wpAnyN_at (i := 5) (v := .slice la' ul.length lc') (some 51) rfl rfl (by kernel_rfl) (by kernel_rfl) (by kernel_rfl) (by kernel_rfl) (fun _ _ _ h => h) (Or.inl ⟨by rfl, ?_⟩) T7 ?_
     · intro w hSw
       obtain ⟨hs1, hs2⟩ := hSw
       go_simp
     try simp only [Act.put, sa1, sa2, sa3]
     refine wpAnyN_at (i := 6) (v := .int .i64 (d : Int)) (some 52) rfl rfl (by kernel_rfl) (by kernel_rfl) (by kernel_rfl) (by kernel_rfl) (fun _ _ _ h => h) (Or.inl ⟨by rfl, ?_⟩) T7 ?_
     · intro w hSw
       obtain ⟨hs1, hs2⟩ := hSw
       go_simp
     try simp only [Act.put, sa1, sa2, sa3]
     refine wpAnyN_at (i := 7) (v := .int .i64 ((d : Int) + 1)) (some 53) rfl rfl (by kernel_rfl) (by kernel_rfl) (by kernel_rfl) (by kernel_rfl) (fun _ _ _ h => h) (Or.inl ⟨by rfl, ?_⟩) T7 ?_
     · intro w hSw
       obtain ⟨hs1, hs2⟩ := hSw
       go_simp
       try exact hwr.out
     try simp only [Act.put, sa1, sa2, sa3]
     refine wpAnyL_one (i := 8) (by kernel_rfl) rfl (fun K hK => ?_)
     go_simp
     refine hcall.out.mono ?_
     rintro e w8 ⟨rfl, v8, hP8, g8⟩
     have s2 : S7 uL uS uN uW g' (o' + i * 5) (.slice la' ul.length lc') w8 := ⟨cell_gr T7.1 g8 (by rintro (e | e | e | e) <;> omega), cell_gr T7.2 g8 (by rintro (e | e | e | e) <;> omega)⟩
     refine hK.out _ _ (fun _ => s2) ?_
     clear hK K
     try simp only [Act.put, sa1, sa2, sa3]
     refine wpAnyL_done (by kernel_rfl) ?_ _
     refine NoPanic.normal ?_
     have hP9 : Hid (Sk N uL uS uN uW mb base w8 (c - (preL (l.take (i + 1))).length) v8 (slL L (l.take (i + 1)))) := by
      show Sk N uL uS uN uW mb base w8 (c - (preL (l.take (i + 1))).length) v8 (slL L (l.take (i + 1)))
      rw [hce.out, hst.out, show (if True then putL Li us else Li) = putL Li us from if_pos trivial, ep]
      exact hP8
     have G9 : Gr (SK uL uN mb base) W w8 := G7.trans g8
     clear hP8
     go_wp2_with fail
     exact ⟨⟨i + 1, v8, hlt, by go_num, hP9, G9⟩, by simp [intOf]; omega⟩
    | true =>
     have ep : putL Li us = Li ++ [us] := by rw [putL, q]; rfl
     rw [q, ep] at hput
     have hcl := fun w => clone_g us w hs'
     obtain ⟨va, vc, rfl⟩ := hP1.out.row.sv
     replace hput := Lib.hid hput
     go_wp2_with fail
     rw [← hw1.out]
     refine wp_region_L (L := 100) (T := S5 uS mb g' (o' + i * 5) 3 us) (by kernel_rfl) ?_
     refine wpAnyN_at (i := 0) (v := (.slice (some ⟨g', o', none⟩) l.length lc)) (some 22) rfl rfl (by kernel_rfl) (by kernel_rfl) (by kernel_rfl) (by kernel_rfl) (fun _ _ _ h => h) (Or.inl ⟨by rfl, ?_⟩) TS ?_
     · intro w hSw
       obtain ⟨hs1, hs2, hs3⟩ := hSw
       go_simp
     try simp only [Act.put, sa1, sa2, sa3]
     refine wpAnyN_at (i := 1) (v := .int .i64 (i : Int)) (some 23) rfl rfl (by kernel_rfl) (by kernel_rfl) (by kernel_rfl) (by kernel_rfl) (fun _ _ _ h => h) (Or.inl ⟨by rfl, ?_⟩) TS ?_
     · intro w hSw
       obtain ⟨hs1, hs2, hs3⟩ := hSw
       go_simp
     try simp only [Act.put, sa1, sa2, sa3]
     refine wpAnyN_at (i := 2) (v := ptr g' (o' + i * 5)) (some 24) rfl rfl (by kernel_rfl) (by kernel_rfl) (by kernel_rfl) (by kernel_rfl) (fun _ _ _ h => h) (Or.inl ⟨by rfl, ?_⟩) TS ?_
     · intro w hSw
       obtain ⟨hs1, hs2, hs3⟩ := hSw
       go_simp
     try simp only [Act.put, sa1, sa2, sa3]
     refine wpAnyN_at (i := 3) (v := ptr g' (o' + i * 5)) (some 25) rfl rfl (by kernel_rfl) (by kernel_rfl) (by kernel_rfl) (by kernel_rfl) (fun _ _ _ h => h) (Or.inl ⟨by rfl, ?_⟩) TS ?_
     · intro w hSw
       obtain ⟨hs1, hs2, hs3⟩ := hSw
       go_simp
     try simp only [Act.put, sa1, sa2, sa3]
     refine wpAnyN_at (i := 4) (v := .int .i64 3) (some 26) rfl rfl (by kernel_rfl) (by kernel_rfl) (by kernel_rfl) (by kernel_rfl) (fun _ _ _ h => h) (Or.inl ⟨by rfl, ?_⟩) TS ?_
     · intro w hSw
       obtain ⟨hs1, hs2, hs3⟩ := hSw
       go_simp
     try simp only [Act.put, sa1, sa2, sa3]
     refine wpAnyN_at (i := 5) (v := .bool true) (some 27) rfl rfl (by kernel_rfl) (by kernel_rfl) (by kernel_rfl) (by kernel_rfl) (fun _ _ _ h => h) (Or.inl ⟨by rfl, ?_⟩) TS ?_
     · intro w hSw
       obtain ⟨hs1, hs2, hs3⟩ := hSw
       go_simp
     try simp only [Act.put, sa1, sa2, sa3]
     refine wpAnyN_at (i := 6) (v := .bool true) (some 28) rfl rfl (by kernel_rfl) (by kernel_rfl) (by kernel_rfl) (by kernel_rfl) (fun _ _ _ h => h) (Or.inl ⟨by rfl, ?_⟩) TS ?_
     · intro w hSw
       obtain ⟨hs1, hs2, hs3⟩ := hSw
       go_simp
     try simp only [Act.put, sa1, sa2, sa3]
     refine wpAnyN_at (i := 7) (v := .map (some mb)) (some 29) rfl rfl (by kernel_rfl) (by kernel_rfl) (by kernel_rfl) (by kernel_rfl) (fun _ _ _ h => h) (Or.inl ⟨by rfl, ?_⟩) TS ?_
     · intro w hSw
       obtain ⟨hs1, hs2, hs3⟩ := hSw
       go_simp
     try simp only [Act.put, sa1, sa2, sa3]
     refine wpAnyN_at (i := 8) (v := (.slice (some ⟨g', o', none⟩) l.length lc)) (some 30) rfl rfl (by kernel_rfl) (by kernel_rfl) (by kernel_rfl) (by kernel_rfl) (fun _ _ _ h => h) (Or.inl ⟨by rfl, ?_⟩) TS ?_
     · intro w hSw
       obtain ⟨hs1, hs2, hs3⟩ := hSw
       go_simp
     try simp only [Act.put, sa1, sa2, sa3]
     refine wpAnyN_at (i := 9) (v := .int .i64 (i : Int)) (some 31) rfl rfl (by kernel_rfl) (by kernel_rfl) (by kernel_rfl) (by kernel_rfl) (fun _ _ _ h => h) (Or.inl ⟨by rfl, ?_⟩) TS ?_
     · intro w hSw
       obtain ⟨hs1, hs2, hs3⟩ := hSw
       go_simp
     try simp only [Act.put, sa1, sa2, sa3]
     refine wpAnyN_at (i := 10) (v := ptr g' (o' + i * 5)) (some 32) rfl rfl (by kernel_rfl) (by kernel_rfl) (by kernel_rfl) (by kernel_rfl) (fun _ _ _ h => h) (Or.inl ⟨by rfl, ?_⟩) TS ?_
     · intro w hSw
       obtain ⟨hs1, hs2, hs3⟩ := hSw
       go_simp
     try simp only [Act.put, sa1, sa2, sa3]
     refine wpAnyN_at (i := 11) (v := ptr g' ((o' + i * 5) + 1)) (some 33) rfl rfl (by kernel_rfl) (by kernel_rfl) (by kernel_rfl) (by kernel_rfl) (fun _ _ _ h => h) (Or.inl ⟨by rfl, ?_⟩) TS ?_
     · intro w hSw
       obtain ⟨hs1, hs2, hs3⟩ := hSw
       go_simp
     try simp only [Act.put, sa1, sa2, sa3]
     refine wpAnyN_at (i := 12) (v := .string us) (some 34) rfl rfl (by kernel_rfl) (by kernel_rfl) (by kernel_rfl) (by kernel_rfl) (fun _ _ _ h => h) (Or.inl ⟨by rfl, ?_⟩) TS ?_
     · intro w hSw
       obtain ⟨hs1, hs2, hs3⟩ := hSw
       go_simp
     try simp only [Act.put, sa1, sa2, sa3]
     refine wpAnyL_one (i := 13) (by kernel_rfl) rfl (fun K hK => ?_)
     go_simp
     refine hput.out.mono ?_
     rintro e w3 ⟨rfl, hB3, g3⟩
     have TS : S5 uS mb g' (o' + i * 5) 3 us w3 := ⟨cell_gr TS.1 g3 (by omega), cell_gr TS.2.1 g3 (by omega), cell_gr TS.2.2 g3 (by omega)⟩
     refine hK.out _ _ (fun _ => TS) ?_
     clear hK K
     try simp only [Act.put, sa1, sa2, sa3]
     refine wpAnyL_one (i := 14) (by kernel_rfl) rfl (fun K hK => ?_)
     go_simp
     refine hK.out _ _ (fun _ => TS) ?_
     clear hK K
     try simp only [Act.put, sa1, sa2, sa3]
     refine wpAnyL_done (by kernel_rfl) ?_ _
     refine NoPanic.normal ?_
     have g31 := (Gr.drew w1 (fun k => k = mb)).trans g3
     have hP3 : Hid (Sk N uL uS uN uW mb base w3 ci (.slice va Li.length vc) Li ∨ True) := Or.inr trivial
     clear hP3
     have hn3 := g31.keep hP1.out.nam (by omega)
     have hR3 := hP1.out.row.gr g31 (fun k hk => by omega)
     have hl3 := g31.keep hP1.out.left (by omega)
     have hs3 := g31.keep hP1.out.seen (by omega)
     have hf3 := g31.keep hP1.out.fn (by omega)
     have y13 := cell_gr y1' g31 (by omega)
     have hg3 : g' < w3.heap.size := by have := g31.size; omega
     have T1 : S6 uN g' (o' + i * 5) (.slice va Li.length vc) us w3.drew := ⟨(one_cell hn3).1, y13, hg3⟩
     have Y3 := cell_gr y4' g31 (by omega)
     have R3 := Lib.hid (hr1.out.gr g31 (fun k hk => by omega))
     replace hB3 := Lib.hid hB3
     replace hR3 := Lib.hid hR3
     replace hl3 := Lib.hid hl3
     replace hs3 := Lib.hid hs3
     replace hf3 := Lib.hid hf3
     replace hn3 := Lib.hid hn3
     go_wp2_with fail
     refine wp_region_L (L := 9) (T := S6 uN g' (o' + i * 5) (.slice va Li.length vc) us) (by kernel_rfl) ?_
     refine wpAnyL_at (i := 0) (v := .slice va Li.length vc) (some 37) rfl rfl (by kernel_rfl) (by kernel_rfl) (by kernel_rfl) (by kernel_rfl) (by decide) (fun _ _ _ h => h) (Or.inl ⟨by rfl, ?_⟩) T1 ?_
     · intro w hSw
       obtain ⟨hs1, hs2, hs3⟩ := hSw
       go_simp
     try simp only [Act.put, sa1, sa2, sa3]
     refine wpAnyL_at (i := 1) (v := (.slice (some ⟨g', o', none⟩) l.length lc)) (some 38) rfl rfl (by kernel_rfl) (by kernel_rfl) (by kernel_rfl) (by kernel_rfl) (by decide) (fun _ _ _ h => h) (Or.inl ⟨by rfl, ?_⟩) T1 ?_
     · intro w hSw
       obtain ⟨hs1, hs2, hs3⟩ := hSw
       go_simp
     try simp only [Act.put, sa1, sa2, sa3]
     refine wpAnyL_at (i := 2) (v := .int .i64 (i : Int)) (some 39) rfl rfl (by kernel_rfl) (by kernel_rfl) (by kernel_rfl) (by kernel_rfl) (by decide) (fun _ _ _ h => h) (Or.inl ⟨by rfl, ?_⟩) T1 ?_
     · intro w hSw
       obtain ⟨hs1, hs2, hs3⟩ := hSw
       go_simp
     try simp only [Act.put, sa1, sa2, sa3]
     refine wpAnyL_at (i := 3) (v := ptr g' (o' + i * 5)) (some 40) rfl rfl (by kernel_rfl) (by kernel_rfl) (by kernel_rfl) (by kernel_rfl) (by decide) (fun _ _ _ h => h) (Or.inl ⟨by rfl, ?_⟩) T1 ?_
     · intro w hSw
       obtain ⟨hs1, hs2, hs3⟩ := hSw
       go_simp
     try simp only [Act.put, sa1, sa2, sa3]
     refine wpAnyL_at (i := 4) (v := ptr g' ((o' + i * 5) + 1)) (some 41) rfl rfl (by kernel_rfl) (by kernel_rfl) (by kernel_rfl) (by kernel_rfl) (by decide) (fun _ _ _ h => h) (Or.inl ⟨by rfl, ?_⟩) T1 ?_
     · intro w hSw
       obtain ⟨hs1, hs2, hs3⟩ := hSw
       go_simp
     try simp only [Act.put, sa1, sa2, sa3]
     refine wpAnyL_at (i := 5) (v := .string us) (some 42) rfl rfl (by kernel_rfl) (by kernel_rfl) (by kernel_rfl) (by kernel_rfl) (by decide) (fun _ _ _ h => h) (Or.inl ⟨by rfl, ?_⟩) T1 ?_
     · intro w hSw
       obtain ⟨hs1, hs2, hs3⟩ := hSw
       go_simp
     try simp only [Act.put, sa1, sa2, sa3]
     refine wpAnyL_one (i := 6) (by kernel_rfl) rfl (fun K hK => ?_)
     go_simp
     refine (hcl _).mono ?_
     rintro e w4 ⟨rfl, g4⟩
     have g4' := (Gr.drew w3 (fun _ => False)).trans g4
     have T2 : S6 uN g' (o' + i * 5) (.slice va Li.length vc) us w4 := ⟨cell_gr T1.1 g4 (fun e => e), cell_gr T1.2.1 g4 (fun e => e), Nat.lt_of_lt_of_le T1.2.2 g4.size⟩
     refine hK.out _ _ (fun _ => T2) ?_
     clear hK K
     try simp only [Act.put, sa1, sa2, sa3]
     refine wpAnyL_one (i := 7) (by kernel_rfl) rfl (fun K hK => ?_)
     go_simp
     have gA := Gr.alloc w4 (.cells #[.string us] 9) (fun _ => False)
     have g5' := g4'.trans gA
     have T3 : S6 uN g' (o' + i * 5) (.slice va Li.length vc) us (w4.alloc (.cells #[.string us] 9)) := ⟨cell_gr T2.1 gA (fun e => e), cell_gr T2.2.1 gA (fun e => e), Nat.lt_of_lt_of_le T2.2.2 gA.size⟩
     have N3 := hR3.out.g0 g5'
     have z3 := (one_cell (heap_alloc_new w4 (.cells #[.string us] 9))).1
     refine hK.out _ _ (fun _ => T3) ?_
     clear hK K
     try simp only [Act.put, sa1, sa2, sa3]
     refine wpAnyL_one (i := 8) (by kernel_rfl) rfl (fun K hK => ?_)
     refine step_ns rfl _ _ rfl base (.slice va Li.length vc) Li w4.heap.size us rfl rfl N3 z3 (by have := hb3.out; omega) ?_
     intro v5 w5 hN5 g5
     have T5 : S6 uN g' (o' + i * 5) (.slice va Li.length vc) us w5 := ⟨cell_gr T3.1 g5 (by omega), cell_gr T3.2.1 g5 (by omega), Nat.lt_of_lt_of_le T3.2.2 g5.size⟩
     have hN5' := g5.keep (g5'.keep hn3.out (fun e => e)) (by omega)
     obtain ⟨u5, uf5, ul5⟩ := one_cell hN5'
     obtain ⟨a5, c5, rfl⟩ := hN5.sv
     refine hK.out _ _ (fun _ => T5) ?_
     clear hK K
     try simp only [Act.put, sa1, sa2, sa3]
     refine wpAnyL_one (i := 9) (by kernel_rfl) rfl (fun K hK => ?_)
     go_simp
     refine hK.out _ _ (fun h => absurd rfl h) ?_
     clear hK K
     try simp only [Act.put, sa1, sa2, sa3]
     refine wpAnyL_done (by kernel_rfl) ?_ _
     refine NoPanic.normal ?_
     have hl6 : (Li ++ [us]).length = Li.length + 1 := by simp
     have gN : Gr (fun k => k = uN) w5 (w5.setCell ⟨uN, 0, none⟩ (.slice a5 (Li.length + 1) c5)) := Gr.set _ _ _ rfl
     have hn6 : (w5.setCell ⟨uN, 0, none⟩ (.slice a5 (Li.length + 1) c5)).heap[uN]? = some (.cells #[.slice a5 (Li.length + 1) c5] 39 (0, 0)) := heap_setCell_same w5 uN 0 _ 39 _ hN5'
     rw [hl6] at hN5
     try rw [hl6]
     generalize w5.setCell ⟨uN, 0, none⟩ (.slice a5 (Li.length + 1) c5) = w6 at gN hn6 ⊢
     have g6 : Gr (fun k => k = uN ∨ base ≤ k) w3 w6 := ((g5'.any _).trans (g5.mono (fun k _ e => .inr e))).trans (gN.mono (fun k _ e => .inl e))
     have hP6 : Sk N uL uS uN uW mb base w6 ci (.slice a5 (Li.length + 1) c5) (Li ++ [us]) :=
      ⟨g6.keep hl3.out (by rintro (e | e) <;> omega), g6.keep hs3.out (by rintro (e | e) <;> omega), hn6, g6.keep hf3.out (by rintro (e | e) <;> omega), hB3.out.gr g6 (by rintro (e | e) <;> omega), hN5.gr gN (fun k hk => by omega), hP1.out.ord⟩
     have Y6 := cell_gr Y3 g6 (by rintro (e | e) <;> omega)
     have Y4 : w6.drew.cell? ⟨g', o' + i * 5 + 4, none⟩ = some (.slice la' ul.length lc') := Y6
     have R4 := (R3.out.gr g6 (fun k hk => by rintro (e | e) <;> omega)).g0 (Gr.drew w6 _)
     have hLn2 : (Li ++ [us]).length ≤ Li.length + 1 := by simp
     have hg6 : g' < w6.heap.size := World.block_lt_of_cell? _ _ Y6
     replace hP6 := Lib.hid hP6
     clear hB3 hR3 hl3 hs3 hf3 hn3 hN5 hN5' T1 T2 T3 T5 N3 z3 u5 uf5 ul5 hn6
     have hPd : Sk N uL uS uN uW mb base (w6).drew ci (.slice a5 (Li.length + 1) c5) (Li ++ [us]) := by
      have h := hP6.out
      have gd := Gr.drew (w6) (fun _ => False)
      exact ⟨h.left, h.seen, h.nam, h.fn, h.bd.gr gd (fun e => e), h.row.g0 gd, h.ord⟩
     have T7 : S7 uL uS uN uW g' (o' + i * 5) (.slice la' ul.length lc') (w6).drew := ⟨(one_cell hPd.fn).1, Y4⟩
     obtain ⟨t0, t1⟩ := T7
     have T7 : S7 uL uS uN uW g' (o' + i * 5) (.slice la' ul.length lc') (w6).drew := ⟨t0, t1⟩
     have hcall := hAi.out (w6).drew la' lc' uL uS uN uW mb base ci (d + 1) (.slice a5 (Li.length + 1) c5) (Li ++ [us]) R4 hPd hb1.out (by omega) hb2.out (by have := hb3.out; have := hLn2; omega)
     rw [show ((d + 1 : Nat) : Int) = (d : Int) + 1 by omega] at hcall
     replace hcall := Lib.hid hcall
     have G7 : Gr (SK uL uN mb base) W (w6).drew := (((hG.trans (gL.mono (fun k _ e => .inl e)))).trans ((g31.mono (fun k _ e => Or.inr (Or.inr (Or.inl e)))).trans (g6.mono (fun k _ e => e.elim (fun h => Or.inr (Or.inl h)) (fun h => Or.inr (Or.inr (Or.inr h))))))).trans (Gr.drew _ _)
     clear hPd
     go_wp2_with fail
     refine wp_region_L (L := 100) (T := S7 uL uS uN uW g' (o' + i * 5) (.slice la' ul.length lc')) (by kernel_rfl) ?_
     refine wpAnyN_at (i := 0) (v := wkS uL uS uN uW) (some 46) rfl rfl (by kernel_rfl) (by kernel_rfl) (by kernel_rfl) (by kernel_rfl) (fun _ _ _ h => h) (Or.inl ⟨by rfl, ?_⟩) T7 ?_
     · intro w hSw
       obtain ⟨hs1, hs2⟩ := hSw
       go_simp
     try simp only [Act.put, sa1, sa2, sa3]
     refine wpAnyN_at (i := 1) (v := (.slice (some ⟨g', o', none⟩) l.length lc)) (some 47) rfl rfl (by kernel_rfl) (by kernel_rfl) (by kernel_rfl) (by kernel_rfl) (fun _ _ _ h => h) (Or.inl ⟨by rfl, ?_⟩) T7 ?_
     · intro w hSw
       obtain ⟨hs1, hs2⟩ := hSw
       go_simp
     try simp only [Act.put, sa1, sa2, sa3]
     refine wpAnyN_at (i := 2) (v := .int .i64 (i : Int)) (some 48) rfl rfl (by kernel_rfl) (by kernel_rfl) (by kernel_rfl) (by kernel_rfl) (fun _ _ _ h => h) (Or.inl ⟨by rfl, ?_⟩) T7 ?_
     · intro w hSw
       obtain ⟨hs1, hs2⟩ := hSw
       go_simp
     try simp only [Act.put, sa1, sa2, sa3]
     refine wpAnyN_at (i := 3) (v := ptr g' (o' + i * 5)) (some 49) rfl rfl (by kernel_rfl) (by kernel_rfl) (by kernel_rfl) (by kernel_rfl) (fun _ _ _ h => h) (Or.inl ⟨by rfl, ?_⟩) T7 ?_
     · intro w hSw
       obtain ⟨hs1, hs2⟩ := hSw
       go_simp
     try simp only [Act.put, sa1, sa2, sa3]
     refine wpAnyN_at (i := 4) (v := ptr g' ((o' + i * 5) + 4)) (some 50) rfl rfl (by kernel_rfl) (by kernel_rfl) (by kernel_rfl) (by kernel_rfl) (fun _ _ _ h => h) (Or.inl ⟨by rfl, ?_⟩) T7 ?_
     · intro w hSw
       obtain ⟨hs1, hs2⟩ := hSw
       go_simp
     try simp only [Act.put, sa1, sa2, sa3]
     refine wpAnyN_at (i := 5) (v := .slice la' ul.length lc') (some 51) rfl rfl (by kernel_rfl) (by kernel_rfl) (by kernel_rfl) (by kernel_rfl) (fun _ _ _ h => h) (Or.inl ⟨by rfl, ?_⟩) T7 ?_
     · intro w hSw
       obtain ⟨hs1, hs2⟩ := hSw
       go_simp
     try simp only [Act.put, sa1, sa2, sa3]
     refine wpAnyN_at (i := 6) (v := .int .i64 (d : Int)) (some 52) rfl rfl (by kernel_rfl) (by kernel_rfl) (by kernel_rfl) (by kernel_rfl) (fun _ _ _ h => h) (Or.inl ⟨by rfl, ?_⟩) T7 ?_
     · intro w hSw
       obtain ⟨hs1, hs2⟩ := hSw
       go_simp
     try simp only [Act.put, sa1, sa2, sa3]
     refine wpAnyN_at (i := 7) (v := .int .i64 ((d : Int) + 1)) (some 53) rfl rfl (by kernel_rfl) (by kernel_rfl) (by kernel_rfl) (by kernel_rfl) (fun _ _ _ h => h) (Or.inl ⟨by rfl, ?_⟩) T7 ?_
     · intro w hSw
       obtain ⟨hs1, hs2⟩ := hSw
       go_simp
       try exact hwr.out
     try simp only [Act.put, sa1, sa2, sa3]
     refine wpAnyL_one (i := 8) (by kernel_rfl) rfl (fun K hK => ?_)
     go_simp
     refine hcall.out.mono ?_
     rintro e w8 ⟨rfl, v8, hP8, g8⟩
     have s2 : S7 uL uS uN uW g' (o' + i * 5) (.slice la' ul.length lc') w8 := ⟨cell_gr T7.1 g8 (by rintro (e | e | e | e) <;> omega), cell_gr T7.2 g8 (by rintro (e | e | e | e) <;> omega)⟩
     refine hK.out _ _ (fun _ => s2) ?_
     clear hK K
     try simp only [Act.put, sa1, sa2, sa3]
     refine wpAnyL_done (by kernel_rfl) ?_ _
     refine NoPanic.normal ?_
     have hP9 : Hid (Sk N uL uS uN uW mb base w8 (c - (preL (l.take (i + 1))).length) v8 (slL L (l.take (i + 1)))) := by
      show Sk N uL uS uN uW mb base w8 (c - (preL (l.take (i + 1))).length) v8 (slL L (l.take (i + 1)))
      rw [hce.out, hst.out, show (if True then putL Li us else Li) = putL Li us from if_pos trivial, ep]
      exact hP8
     have G9 : Gr (SK uL uN mb base) W w8 := G7.trans g8
     clear hP8
     go_wp2_with fail
     exact ⟨⟨i + 1, v8, hlt, by go_num, hP9, G9⟩, by simp [intOf]; omega⟩
   ·
    have hk' : (uk == 3) = false := by simpa using hk
    have TS : S5 uS mb g' (o' + i * 5) uk us w1.drew := ⟨(one_cell hP1.seen).1, y0', y1'⟩
    replace hP1 := Lib.hid hP1
    go_wp2_with fail
    rw [← hw1.out]
    refine wp_region_L (L := 100) (T := S5 uS mb g' (o' + i * 5) uk us) (by kernel_rfl) ?_
    refine wpAnyN_at (i := 0) (v := (.slice (some ⟨g', o', none⟩) l.length lc)) (some 22) rfl rfl (by kernel_rfl) (by kernel_rfl) (by kernel_rfl) (by kernel_rfl) (fun _ _ _ h => h) (Or.inl ⟨by rfl, ?_⟩) TS ?_
    · intro w hSw
      obtain ⟨hs1, hs2, hs3⟩ := hSw
      go_simp
    try simp only [Act.put, sa1, sa2, sa3]
    refine wpAnyN_at (i := 1) (v := .int .i64 (i : Int)) (some 23) rfl rfl (by kernel_rfl) (by kernel_rfl) (by kernel_rfl) (by kernel_rfl) (fun _ _ _ h => h) (Or.inl ⟨by rfl, ?_⟩) TS ?_
    · intro w hSw
      obtain ⟨hs1, hs2, hs3⟩ := hSw
      go_simp
    try simp only [Act.put, sa1, sa2, sa3]
    refine wpAnyN_at (i := 2) (v := ptr g' (o' + i * 5)) (some 24) rfl rfl (by kernel_rfl) (by kernel_rfl) (by kernel_rfl) (by kernel_rfl) (fun _ _ _ h => h) (Or.inl ⟨by rfl, ?_⟩) TS ?_
    · intro w hSw
      obtain ⟨hs1, hs2, hs3⟩ := hSw
      go_simp
    try simp only [Act.put, sa1, sa2, sa3]
    refine wpAnyN_at (i := 3) (v := ptr g' (o' + i * 5)) (some 25) rfl rfl (by kernel_rfl) (by kernel_rfl) (by kernel_rfl) (by kernel_rfl) (fun _ _ _ h => h) (Or.inl ⟨by rfl, ?_⟩) TS ?_
    · intro w hSw
      obtain ⟨hs1, hs2, hs3⟩ := hSw
      go_simp
    try simp only [Act.put, sa1, sa2, sa3]
    refine wpAnyN_at (i := 4) (v := .int .i64 uk) (some 26) rfl rfl (by kernel_rfl) (by kernel_rfl) (by kernel_rfl) (by kernel_rfl) (fun _ _ _ h => h) (Or.inl ⟨by rfl, ?_⟩) TS ?_
    · intro w hSw
      obtain ⟨hs1, hs2, hs3⟩ := hSw
      go_simp
    try simp only [Act.put, sa1, sa2, sa3]
    refine wpAnyN_at (i := 5) (v := .bool false) (some 27) rfl rfl (by kernel_rfl) (by kernel_rfl) (by kernel_rfl) (by kernel_rfl) (fun _ _ _ h => h) (Or.inl ⟨by rfl, ?_⟩) TS ?_
    · intro w hSw
      obtain ⟨hs1, hs2, hs3⟩ := hSw
      go_simp
    try simp only [Act.put, sa1, sa2, sa3]
    refine wpAnyN_at (i := 6) (v := .bool false) (some 28) rfl rfl (by kernel_rfl) (by kernel_rfl) (by kernel_rfl) (by kernel_rfl) (fun _ _ _ h => h) (Or.inl ⟨by rfl, ?_⟩) TS ?_
    · intro w hSw
      obtain ⟨hs1, hs2, hs3⟩ := hSw
      go_simp
    try simp only [Act.put, sa1, sa2, sa3]
    refine wpAnyN_at (i := 7) (v := undef) (some 29) rfl rfl (by kernel_rfl) (by kernel_rfl) (by kernel_rfl) (by kernel_rfl) (fun _ _ _ h => h) (Or.inr ⟨by rfl, rfl⟩) TS ?_
    try simp only [Act.put, sa1, sa2, sa3]
    refine wpAnyN_at (i := 8) (v := undef) (some 30) rfl rfl (by kernel_rfl) (by kernel_rfl) (by kernel_rfl) (by kernel_rfl) (fun _ _ _ h => h) (Or.inr ⟨by rfl, rfl⟩) TS ?_
    try simp only [Act.put, sa1, sa2, sa3]
    refine wpAnyN_at (i := 9) (v := undef) (some 31) rfl rfl (by kernel_rfl) (by kernel_rfl) (by kernel_rfl) (by kernel_rfl) (fun _ _ _ h => h) (Or.inr ⟨by rfl, rfl⟩) TS ?_
    try simp only [Act.put, sa1, sa2, sa3]
    refine wpAnyN_at (i := 10) (v := undef) (some 32) rfl rfl (by kernel_rfl) (by kernel_rfl) (by kernel_rfl) (by kernel_rfl) (fun _ _ _ h => h) (Or.inr ⟨by rfl, rfl⟩) TS ?_
    try simp only [Act.put, sa1, sa2, sa3]
    refine wpAnyN_at (i := 11) (v := undef) (some 33) rfl rfl (by kernel_rfl) (by kernel_rfl) (by kernel_rfl) (by kernel_rfl) (fun _ _ _ h => h) (Or.inr ⟨by rfl, rfl⟩) TS ?_
    try simp only [Act.put, sa1, sa2, sa3]
    refine wpAnyN_at (i := 12) (v := undef) (some 34) rfl rfl (by kernel_rfl) (by kernel_rfl) (by kernel_rfl) (by kernel_rfl) (fun _ _ _ h => h) (Or.inr ⟨by rfl, rfl⟩) TS ?_
    try simp only [Act.put, sa1, sa2, sa3]
    refine wpAnyN_at (i := 13) (v := undef) (some 35) rfl rfl (by kernel_rfl) (by kernel_rfl) (by kernel_rfl) (by kernel_rfl) (fun _ _ _ h => h) (Or.inr ⟨by rfl, rfl⟩) TS ?_
    try simp only [Act.put, sa1, sa2, sa3]
    refine wpAnyL_one (i := 14) (by kernel_rfl) rfl (fun K hK => ?_)
    go_simp
    refine hK.out _ _ (fun _ => TS) ?_
    clear hK K
    try simp only [Act.put, sa1, sa2, sa3]
    refine wpAnyL_done (by kernel_rfl) ?_ _
    refine NoPanic.normal ?_
    have hP2 : Sk N uL uS uN uW mb base w1.drew ci v' Li := by
     have h := hP1.out
     have gd := Gr.drew w1 (fun _ => False)
     exact ⟨h.left, h.seen, h.nam, h.fn, h.bd.gr gd (fun e => e), h.row.g0 gd, h.ord⟩
    have Y4 : w1.drew.drew.cell? ⟨g', o' + i * 5 + 4, none⟩ = some (.slice la' ul.length lc') := y4'
    have R4 := (hr1.out.g0 (Gr.drew w1 _)).g0 (Gr.drew w1.drew _)
    have hLn2 : Li.length ≤ Li.length + 1 := by omega
    have hPd : Sk N uL uS uN uW mb base (w1.drew).drew ci v' Li := by
     have h := hP2
     have gd := Gr.drew (w1.drew) (fun _ => False)
     exact ⟨h.left, h.seen, h.nam, h.fn, h.bd.gr gd (fun e => e), h.row.g0 gd, h.ord⟩
    have T7 : S7 uL uS uN uW g' (o' + i * 5) (.slice la' ul.length lc') (w1.drew).drew := ⟨(one_cell hPd.fn).1, Y4⟩
    obtain ⟨t0, t1⟩ := T7
    have T7 : S7 uL uS uN uW g' (o' + i * 5) (.slice la' ul.length lc') (w1.drew).drew := ⟨t0, t1⟩
    have hcall := hAi.out (w1.drew).drew la' lc' uL uS uN uW mb base ci (d + 1) v' Li R4 hPd hb1.out (by omega) hb2.out (by have := hb3.out; have := hLn2; omega)
    rw [show ((d + 1 : Nat) : Int) = (d : Int) + 1 by omega] at hcall
    replace hcall := Lib.hid hcall
    have G7 : Gr (SK uL uN mb base) W (w1.drew).drew := (((hG.trans (gL.mono (fun k _ e => .inl e)))).trans (Gr.drew _ _)).trans (Gr.drew _ _)
    clear hPd
    go_wp2_with fail
    refine wp_region_L (L := 100) (T := S7 uL uS uN uW g' (o' + i * 5) (.slice la' ul.length lc')) (by kernel_rfl) ?_
    refine wpAnyN_at (i := 0) (v := wkS uL uS uN uW) (some 46) rfl rfl (by kernel_rfl) (by kernel_rfl) (by kernel_rfl) (by kernel_rfl) (fun _ _ _ h => h) (Or.inl ⟨by rfl, ?_⟩) T7 ?_
    · intro w hSw
      obtain ⟨hs1, hs2⟩ := hSw
      go_simp
    try simp only [Act.put, sa1, sa2, sa3]
    refine wpAnyN_at (i := 1) (v := (.slice (some ⟨g', o', none⟩) l.length lc)) (some 47) rfl rfl (by kernel_rfl) (by kernel_rfl) (by kernel_rfl) (by kernel_rfl) (fun _ _ _ h => h) (Or.inl ⟨by rfl, ?_⟩) T7 ?_
    · intro w hSw
      obtain ⟨hs1, hs2⟩ := hSw
      go_simp
    try simp only [Act.put, sa1, sa2, sa3]
    refine wpAnyN_at (i := 2) (v := .int .i64 (i : Int)) (some 48) rfl rfl (by kernel_rfl) (by kernel_rfl) (by kernel_rfl) (by kernel_rfl) (fun _ _ _ h => h) (Or.inl ⟨by rfl, ?_⟩) T7 ?_
    · intro w hSw
      obtain ⟨hs1, hs2⟩ := hSw
      go_simp
    try simp only [Act.put, sa1, sa2, sa3]
    refine wpAnyN_at (i := 3) (v := ptr g' (o' + i * 5)) (some 49) rfl rfl (by kernel_rfl) (by kernel_rfl) (by kernel_rfl) (by kernel_rfl) (fun _ _ _ h => h) (Or.inl ⟨by rfl, ?_⟩) T7 ?_
    · intro w hSw
      obtain ⟨hs1, hs2⟩ := hSw
      go_simp
    try simp only [Act.put, sa1, sa2, sa3]
    refine wpAnyN_at (i := 4) (v := ptr g' ((o' + i * 5) + 4)) (some 50) rfl rfl (by kernel_rfl) (by kernel_rfl) (by kernel_rfl) (by kernel_rfl) (fun _ _ _ h => h) (Or.inl ⟨by rfl, ?_⟩) T7 ?_
    · intro w hSw
      obtain ⟨hs1, hs2⟩ := hSw
      go_simp
    try simp only [Act.put, sa1, sa2, sa3]
    refine wpAnyN_at (i := 5) (v := .slice la' ul.length lc') (some 51) rfl rfl (by kernel_rfl) (by kernel_rfl) (by kernel_rfl) (by kernel_rfl) (fun _ _ _ h => h) (Or.inl ⟨by rfl, ?_⟩) T7 ?_
    · intro w hSw
      obtain ⟨hs1, hs2⟩ := hSw
      go_simp
    try simp only [Act.put, sa1, sa2, sa3]
    refine wpAnyN_at (i := 6) (v := .int .i64 (d : Int)) (some 52) rfl rfl (by kernel_rfl) (by kernel_rfl) (by kernel_rfl) (by kernel_rfl) (fun _ _ _ h => h) (Or.inl ⟨by rfl, ?_⟩) T7 ?_
    · intro w hSw
      obtain ⟨hs1, hs2⟩ := hSw
      go_simp
    try simp only [Act.put, sa1, sa2, sa3]
    refine wpAnyN_at (i := 7) (v := .int .i64 ((d : Int) + 1)) (some 53) rfl rfl (by kernel_rfl) (by kernel_rfl) (by kernel_rfl) (by kernel_rfl) (fun _ _ _ h => h) (Or.inl ⟨by rfl, ?_⟩) T7 ?_
    · intro w hSw
      obtain ⟨hs1, hs2⟩ := hSw
      go_simp
      try exact hwr.out
    try simp only [Act.put, sa1, sa2, sa3]
    refine wpAnyL_one (i := 8) (by kernel_rfl) rfl (fun K hK => ?_)
    go_simp
    refine hcall.out.mono ?_
    rintro e w8 ⟨rfl, v8, hP8, g8⟩
    have s2 : S7 uL uS uN uW g' (o' + i * 5) (.slice la' ul.length lc') w8 := ⟨cell_gr T7.1 g8 (by rintro (e | e | e | e) <;> omega), cell_gr T7.2 g8 (by rintro (e | e | e | e) <;> omega)⟩
    refine hK.out _ _ (fun _ => s2) ?_
    clear hK K
    try simp only [Act.put, sa1, sa2, sa3]
    refine wpAnyL_done (by kernel_rfl) ?_ _
    refine NoPanic.normal ?_
    have hP9 : Hid (Sk N uL uS uN uW mb base w8 (c - (preL (l.take (i + 1))).length) v8 (slL L (l.take (i + 1)))) := by
     show Sk N uL uS uN uW mb base w8 (c - (preL (l.take (i + 1))).length) v8 (slL L (l.take (i + 1)))
     rw [hce.out, hst.out, if_neg hk]
     exact hP8
    have G9 : Gr (SK uL uN mb base) W w8 := G7.trans g8
    clear hP8
    go_wp2_with fail
    exact ⟨⟨i + 1, v8, hlt, by go_num, hP9, G9⟩, by simp [intOf]; omega⟩
  · have h1 : decide ((i : Int) < (l.length : Int)) = false := by simp; omega
    obtain rfl : i = l.length := by omega
    go_wp2_with fail
    have hP' := hP.out
    rw [List.take_length] at hP'
    exact ⟨rfl, .tuple #[], by simp [results, Tryz.results36, go_sem], rfl, v', hP', hG⟩
end Go.Proofs.YtjedbfbolifjjaaGreatDoor
