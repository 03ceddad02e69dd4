/-
  Which parts stand in a part: all kinds but two.
  What stands in a TRecv ahead of its TAfter; which parts may stand in a part (all kinds but two).
-/
import Derived.Test.YtjedbfbolifjjaaGreatDoorKA
import Derived.Test.YtjedbfbolifjjaaGreatDoorGQ
set_option linter.unusedVariables false
set_option linter.unusedSimpArgs false
namespace Go.Proofs.YtjedbfbolifjjaaGreatDoor
open Go.RowKit Go.Maps
variable {W W' : World}
/-- Does a row end in a TAfter? -/
def aftV (l : List Tr) : Bool := (l.getLast?.map (isK 14)).getD false
def clsV (l : List Tr) : List Tr := if aftV l = true then l.dropLast else l
def partsV : Tr → Bool
 | .mk k _ _ _ l =>
  if k = 1 ∨ k = 2 ∨ k = 3 ∨ k = 4 then true
  else if k = 5 ∨ k = 6 ∨ k = 11 then l.all exV
  else if k = 7 then ((l.length : Int) == 1) && l.all exV
  else if k = 8 ∨ k = 9 ∨ k = 10 then ((l.length : Int) == 2) && l.all exV
  else if k = 12 then decide (1 < l.length) && (l.head?.map exV).getD false && (l.drop 1).all (isK 15)
  else if k = 13 then decide (0 < l.length) && (clsV l).all (isK 15)
  else if k = 14 ∨ k = 15 then ((l.length : Int) == 2) && ((l[0]?.map exV).getD false && (l[1]?.map (isK 16)).getD false)
  else if k = 16 then decide (0 < l.length) && l.all exV
  else if k = 17 then decide (0 < l.length) && l.dropLast.all (isK 3) && (l.getLast?.map (isK 16)).getD false
  else if k = 18 then l.all (isK 17)
  else false
/-- The last of a row, by its place. -/
theorem RowAt.last {N : Nat} {la : Option Addr} {l : List Tr} {U : Tr} (h : RowAt N W la l) (hU : l.getLast? = some U) : ∃ g o, la = some ⟨g, o, none⟩ ∧ g < N ∧ TAtG N W g (o + (l.length - 1) * 5) U := by
 rw [List.getLast?_eq_getElem?] at hU
 exact h _ _ hU
theorem RowAt.pre {N : Nat} {la : Option Addr} {l l' : List Tr} (h : RowAt N W la (l ++ l')) : RowAt N W la l := fun i T hi => h i T (by
 rw [List.getElem?_append_left (List.getElem?_eq_some_iff.1 hi).1]; exact hi)
theorem RowAt.dropLast {N : Nat} {la : Option Addr} {l : List Tr} (h : RowAt N W la l) : RowAt N W la l.dropLast := fun i T hi => h i T (by
 have hl := (List.getElem?_eq_some_iff.1 hi).1
 rw [List.getElem?_dropLast] at hi
 split at hi
 · exact hi
 · cases hi)
theorem TAtG.kind {N g o : Nat} {T : Tr} (h : TAtG N W g o T) : ∃ k s n b l, T = .mk k s n b l ∧ W.cell? ⟨g, o, none⟩ = some (.int .i64 k) ∧ g < W.heap.size := by
 obtain ⟨k, s, n, b, l⟩ := T
 obtain ⟨ba, bc, la, lc, ⟨x0, _⟩, _, hl⟩ := h.parts
 exact ⟨k, s, n, b, l, rfl, x0, hl⟩
/-- What afterOf answers. -/
def aftP (l : List Tr) (la : Option Addr) : Value := if aftV l = true then .pointer (la.map fun a => a.add ((l.length - 1) * 5)) else .pointer none
set_option maxRecDepth 100000 in
set_option maxHeartbeats 1600000 in
theorem after_c (N : Nat) (W : World) (g o : Nat) (k : Int) (s : ByteArray) (n : Int) (b : List Int) (l : List Tr) (hl : l.length ≤ 4611686018427387904) (hT : TAtG N W g o (.mk k s n b l)) (la : Option Addr) (lc : Nat) (x4 : W.cell? ⟨g, o + 4, none⟩ = some (.slice la l.length lc)) (hrow : RowAt N W la l) :
 Calls Tryz.prog 109 #[ptr g o] W fun e w' => e = .returned (aftP l la) ∧ Gr (fun _ => False) W w' := by
 have hgl := World.block_lt_of_cell? _ _ x4
 have hlI : (l.length : Int) ≤ 4611686018427387904 := by omega
 clear hT
 cases hU : l.getLast? with
 | none =>
  have h0 : l = [] := List.getLast?_eq_none_iff.1 hU
  subst h0
  have e : aftP ([] : List Tr) la = .pointer none := rfl
  rw [e]
  clear hrow hU
  go_enter Tryz.func109, Tryz.ntmps109
  go_wp2_with fail
  go_ret
  exact ⟨rfl, Gr.refl _ _⟩
 | some U =>
  obtain ⟨g', o', rfl, hg', hTA⟩ := hrow.last hU
  obtain ⟨k', s', n', b', l', rfl, y0, hgl'⟩ := hTA.kind
  have hp : 0 < l.length := by cases l with
   | nil => cases hU
   | cons a r => simp
  have ea : aftV l = (k' == 14) := by unfold aftV; rw [hU]; rfl
  obtain ⟨m, hm⟩ : ∃ m, l.length - 1 = m := ⟨_, rfl⟩
  have hmI : (l.length : Int) - 1 = (m : Int) := by omega
  have hadd : (⟨g', o', none⟩ : Addr).add (m * 5) = ⟨g', o' + m * 5, none⟩ := by unfold Addr.add; split <;> simp_all
  unfold aftP
  rw [ea, hm]
  rw [hm] at y0
  have hlt : (m : Int) < (l.length : Int) := by omega
  have hm0 : Hid (m < l.length) := by show _ < _; omega
  have hge : decide ((0 : Int) ≤ (m : Int)) = true := by simp
  show Calls Tryz.prog 109 #[ptr g o] W fun e w' => e = .returned (if (k' == 14) = true then .pointer (some ((⟨g', o', none⟩ : Addr).add (m * 5))) else .pointer none) ∧ Gr (fun _ => False) W w'
  rw [hadd]
  clear hTA hrow hU hm hadd ea hp
  cases q : (k' == 14)
  all_goals
   go_enter Tryz.func109, Tryz.ntmps109
   go_wp2_with fail
   go_ret
   exact ⟨rfl, Gr.refl _ _⟩
end Go.Proofs.YtjedbfbolifjjaaGreatDoor

namespace Go.Proofs.YtjedbfbolifjjaaGreatDoor
open Go.RowKit Go.Maps
variable {W W' : World}
set_option maxRecDepth 100000 in
set_option maxHeartbeats 1600000 in
theorem clauses_c (N : Nat) (W : World) (g o : Nat) (k : Int) (s : ByteArray) (n : Int) (b : List Int) (l : List Tr) (hl : l.length ≤ 4611686018427387904) (hT : TAtG N W g o (.mk k s n b l)) (la : Option Addr) (lc : Nat) (x4 : W.cell? ⟨g, o + 4, none⟩ = some (.slice la l.length lc)) (hrow : RowAt N W la l) :
 Calls Tryz.prog 92 #[ptr g o] W fun e w' => ∃ c, e = .returned (.slice la (clsV l).length c) ∧ Gr (fun _ => False) W w' := by
 have hgl := World.block_lt_of_cell? _ _ x4
 have hlI : (l.length : Int) ≤ 4611686018427387904 := by omega
 have hcap := hT.cap x4
 have hca := after_c N W g o k s n b l hl hT la lc x4 hrow
 unfold aftP at hca
 unfold clsV
 cases ha : aftV l with
 | false =>
  rw [ha] at hca
  rw [if_neg (by decide)]
  replace hca : Calls Tryz.prog 109 #[ptr g o] W fun e w' => e = .returned (.pointer none) ∧ Gr (fun _ => False) W w' := hca
  replace hca := Lib.hid hca
  clear hT hrow
  go_enter Tryz.func92, Tryz.ntmps92
  go_wp2_with fail
  refine hca.out.mono ?_
  rintro e w1 ⟨rfl, g1⟩
  have y4 := cell_gr x4 g1 (fun e => e)
  have hg1 := World.block_lt_of_cell? _ _ y4
  clear x4
  go_wp2_with fail
  go_ret
  exact ⟨_, rfl, g1⟩
 | true =>
  rw [ha] at hca
  rw [if_pos rfl]
  have hp : 0 < l.length := by cases l with
   | nil => cases ha
   | cons a r => simp
  obtain ⟨U, hU⟩ : ∃ U, l.getLast? = some U := by
   cases h : l.getLast? with
   | none => rw [List.getLast?_eq_none_iff.1 h] at hp; simp at hp
   | some U => exact ⟨U, rfl⟩
  obtain ⟨g', o', rfl, hg', hTA⟩ := hrow.last hU
  obtain ⟨m, hm⟩ : ∃ m, l.length - 1 = m := ⟨_, rfl⟩
  have hmI : (l.length : Int) - 1 = (m : Int) := by omega
  have hadd : (⟨g', o', none⟩ : Addr).add (m * 5) = ⟨g', o' + m * 5, none⟩ := by unfold Addr.add; split <;> simp_all
  replace hca : Calls Tryz.prog 109 #[ptr g o] W fun e w' => e = .returned (.pointer (some ((⟨g', o', none⟩ : Addr).add ((l.length - 1) * 5)))) ∧ Gr (fun _ => False) W w' := hca
  rw [hm, hadd] at hca
  replace hca := Lib.hid hca
  have hml : l.dropLast.length = m := by rw [List.length_dropLast]; exact hm
  rw [hml]
  have hmc : (m : Int) ≤ (lc : Int) := by omega
  have hmc2 : m ≤ lc := by omega
  have hlt : (m : Int) < (l.length : Int) := by omega
  clear hT hrow hTA hU hm hadd hml hp
  go_enter Tryz.func92, Tryz.ntmps92
  go_wp2_with fail
  refine hca.out.mono ?_
  rintro e w1 ⟨rfl, g1⟩
  have y4 := cell_gr x4 g1 (fun e => e)
  have hg1 := World.block_lt_of_cell? _ _ y4
  clear x4
  go_wp2_with fail
  go_quiet (fail)
  go_wp2_with fail
  go_ret
  exact ⟨_, rfl, g1.trans (Gr.drewN _ _ _)⟩
theorem two_of_len {l : List Tr} (h : l.length = 2) : ∃ A B, l = [A, B] := by
 match l, h with
 | [A, B], _ => exact ⟨A, B, rfl⟩
def PartsOk (N : Nat) (T : Tr) : Prop := ∀ (W : World) (g o : Nat), TAtG N W g o T → g < N → N ≤ W.heap.size → Calls Tryz.prog 68 #[ptr g o] W fun e w' => e = .returned (.bool (partsV T)) ∧ Gr (fun _ => False) W w'
set_option maxRecDepth 100000 in
set_option maxHeartbeats 1600000 in
theorem parts1 (N : Nat) (s : ByteArray) (n : Int) (b : List Int) (l : List Tr) (hl : l.length ≤ 4611686018427387904) : PartsOk N (.mk 1 s n b l) := by
 intro W g o hT hg hN
 obtain ⟨ba, bc, la, lc, ⟨x0, x1, x2, x3, x4⟩, hrow, hgl⟩ := hT.parts
 have hlI : (l.length : Int) ≤ 4611686018427387904 := by omega
 show Calls Tryz.prog 68 #[ptr g o] W fun e w' => e = .returned (.bool (true)) ∧ Gr (fun _ => False) W w'
 clear hrow hT x1 x2 x3
 go_enter Tryz.func68, Tryz.ntmps68
 go_wp2_with fail
 go_ret
 exact ⟨rfl, Gr.refl _ _⟩
set_option maxRecDepth 100000 in
set_option maxHeartbeats 1600000 in
theorem parts2 (N : Nat) (s : ByteArray) (n : Int) (b : List Int) (l : List Tr) (hl : l.length ≤ 4611686018427387904) : PartsOk N (.mk 2 s n b l) := by
 intro W g o hT hg hN
 obtain ⟨ba, bc, la, lc, ⟨x0, x1, x2, x3, x4⟩, hrow, hgl⟩ := hT.parts
 have hlI : (l.length : Int) ≤ 4611686018427387904 := by omega
 show Calls Tryz.prog 68 #[ptr g o] W fun e w' => e = .returned (.bool (true)) ∧ Gr (fun _ => False) W w'
 clear hrow hT x1 x2 x3
 go_enter Tryz.func68, Tryz.ntmps68
 go_wp2_with fail
 go_ret
 exact ⟨rfl, Gr.refl _ _⟩
set_option maxRecDepth 100000 in
set_option maxHeartbeats 1600000 in
theorem parts3 (N : Nat) (s : ByteArray) (n : Int) (b : List Int) (l : List Tr) (hl : l.length ≤ 4611686018427387904) : PartsOk N (.mk 3 s n b l) := by
 intro W g o hT hg hN
 obtain ⟨ba, bc, la, lc, ⟨x0, x1, x2, x3, x4⟩, hrow, hgl⟩ := hT.parts
 have hlI : (l.length : Int) ≤ 4611686018427387904 := by omega
 show Calls Tryz.prog 68 #[ptr g o] W fun e w' => e = .returned (.bool (true)) ∧ Gr (fun _ => False) W w'
 clear hrow hT x1 x2 x3
 go_enter Tryz.func68, Tryz.ntmps68
 go_wp2_with fail
 go_ret
 exact ⟨rfl, Gr.refl _ _⟩
set_option maxRecDepth 100000 in
set_option maxHeartbeats 1600000 in
theorem parts4 (N : Nat) (s : ByteArray) (n : Int) (b : List Int) (l : List Tr) (hl : l.length ≤ 4611686018427387904) : PartsOk N (.mk 4 s n b l) := by
 intro W g o hT hg hN
 obtain ⟨ba, bc, la, lc, ⟨x0, x1, x2, x3, x4⟩, hrow, hgl⟩ := hT.parts
 have hlI : (l.length : Int) ≤ 4611686018427387904 := by omega
 show Calls Tryz.prog 68 #[ptr g o] W fun e w' => e = .returned (.bool (true)) ∧ Gr (fun _ => False) W w'
 clear hrow hT x1 x2 x3
 go_enter Tryz.func68, Tryz.ntmps68
 go_wp2_with fail
 go_ret
 exact ⟨rfl, Gr.refl _ _⟩
set_option maxRecDepth 100000 in
set_option maxHeartbeats 1600000 in
theorem parts5 (N : Nat) (s : ByteArray) (n : Int) (b : List Int) (l : List Tr) (hl : l.length ≤ 4611686018427387904) : PartsOk N (.mk 5 s n b l) := by
 intro W g o hT hg hN
 obtain ⟨ba, bc, la, lc, ⟨x0, x1, x2, x3, x4⟩, hrow, hgl⟩ := hT.parts
 have hlI : (l.length : Int) ≤ 4611686018427387904 := by omega
 show Calls Tryz.prog 68 #[ptr g o] W fun e w' => e = .returned (.bool (l.all exV)) ∧ Gr (fun _ => False) W w'
 have hev := Lib.hid (every_c (expression_c N) l hl (fun _ _ => trivial) W la lc trivial hrow hN)
 clear hrow hT x1 x2 x3
 go_enter Tryz.func68, Tryz.ntmps68
 go_wp2_with fail
 refine hev.out.mono ?_
 rintro e w1 ⟨rfl, g1⟩
 go_wp2_with fail
 go_ret
 exact ⟨rfl, g1⟩
set_option maxRecDepth 100000 in
set_option maxHeartbeats 1600000 in
theorem parts6 (N : Nat) (s : ByteArray) (n : Int) (b : List Int) (l : List Tr) (hl : l.length ≤ 4611686018427387904) : PartsOk N (.mk 6 s n b l) := by
 intro W g o hT hg hN
 obtain ⟨ba, bc, la, lc, ⟨x0, x1, x2, x3, x4⟩, hrow, hgl⟩ := hT.parts
 have hlI : (l.length : Int) ≤ 4611686018427387904 := by omega
 show Calls Tryz.prog 68 #[ptr g o] W fun e w' => e = .returned (.bool (l.all exV)) ∧ Gr (fun _ => False) W w'
 have hev := Lib.hid (every_c (expression_c N) l hl (fun _ _ => trivial) W la lc trivial hrow hN)
 clear hrow hT x1 x2 x3
 go_enter Tryz.func68, Tryz.ntmps68
 go_wp2_with fail
 refine hev.out.mono ?_
 rintro e w1 ⟨rfl, g1⟩
 go_wp2_with fail
 go_ret
 exact ⟨rfl, g1⟩
set_option maxRecDepth 100000 in
set_option maxHeartbeats 1600000 in
theorem parts11 (N : Nat) (s : ByteArray) (n : Int) (b : List Int) (l : List Tr) (hl : l.length ≤ 4611686018427387904) : PartsOk N (.mk 11 s n b l) := by
 intro W g o hT hg hN
 obtain ⟨ba, bc, la, lc, ⟨x0, x1, x2, x3, x4⟩, hrow, hgl⟩ := hT.parts
 have hlI : (l.length : Int) ≤ 4611686018427387904 := by omega
 show Calls Tryz.prog 68 #[ptr g o] W fun e w' => e = .returned (.bool (l.all exV)) ∧ Gr (fun _ => False) W w'
 have hev := Lib.hid (every_c (expression_c N) l hl (fun _ _ => trivial) W la lc trivial hrow hN)
 clear hrow hT x1 x2 x3
 go_enter Tryz.func68, Tryz.ntmps68
 go_wp2_with fail
 refine hev.out.mono ?_
 rintro e w1 ⟨rfl, g1⟩
 go_wp2_with fail
 go_ret
 exact ⟨rfl, g1⟩
set_option maxRecDepth 100000 in
set_option maxHeartbeats 1600000 in
theorem parts7 (N : Nat) (s : ByteArray) (n : Int) (b : List Int) (l : List Tr) (hl : l.length ≤ 4611686018427387904) : PartsOk N (.mk 7 s n b l) := by
 intro W g o hT hg hN
 obtain ⟨ba, bc, la, lc, ⟨x0, x1, x2, x3, x4⟩, hrow, hgl⟩ := hT.parts
 have hlI : (l.length : Int) ≤ 4611686018427387904 := by omega
 show Calls Tryz.prog 68 #[ptr g o] W fun e w' => e = .returned (.bool (((l.length : Int) == 1) && l.all exV)) ∧ Gr (fun _ => False) W w'
 have hev := Lib.hid (every_c (expression_c N) l hl (fun _ _ => trivial) W la lc trivial hrow hN)
 clear hrow hT x1 x2 x3
 cases q : ((l.length : Int) == 1) with
 | false =>
  go_enter Tryz.func68, Tryz.ntmps68
  go_wp2_with fail
  go_ret
  exact ⟨rfl, Gr.refl _ _⟩
 | true =>
  go_enter Tryz.func68, Tryz.ntmps68
  go_wp2_with fail
  refine hev.out.mono ?_
  rintro e w1 ⟨rfl, g1⟩
  go_wp2_with fail
  go_ret
  exact ⟨by rw [Bool.true_and]; rfl, g1⟩
set_option maxRecDepth 100000 in
set_option maxHeartbeats 1600000 in
theorem parts8 (N : Nat) (s : ByteArray) (n : Int) (b : List Int) (l : List Tr) (hl : l.length ≤ 4611686018427387904) : PartsOk N (.mk 8 s n b l) := by
 intro W g o hT hg hN
 obtain ⟨ba, bc, la, lc, ⟨x0, x1, x2, x3, x4⟩, hrow, hgl⟩ := hT.parts
 have hlI : (l.length : Int) ≤ 4611686018427387904 := by omega
 show Calls Tryz.prog 68 #[ptr g o] W fun e w' => e = .returned (.bool (((l.length : Int) == 2) && l.all exV)) ∧ Gr (fun _ => False) W w'
 have hev := Lib.hid (every_c (expression_c N) l hl (fun _ _ => trivial) W la lc trivial hrow hN)
 clear hrow hT x1 x2 x3
 cases q : ((l.length : Int) == 2) with
 | false =>
  go_enter Tryz.func68, Tryz.ntmps68
  go_wp2_with fail
  go_ret
  exact ⟨rfl, Gr.refl _ _⟩
 | true =>
  go_enter Tryz.func68, Tryz.ntmps68
  go_wp2_with fail
  refine hev.out.mono ?_
  rintro e w1 ⟨rfl, g1⟩
  go_wp2_with fail
  go_ret
  exact ⟨by rw [Bool.true_and]; rfl, g1⟩
set_option maxRecDepth 100000 in
set_option maxHeartbeats 1600000 in
theorem parts9 (N : Nat) (s : ByteArray) (n : Int) (b : List Int) (l : List Tr) (hl : l.length ≤ 4611686018427387904) : PartsOk N (.mk 9 s n b l) := by
 intro W g o hT hg hN
 obtain ⟨ba, bc, la, lc, ⟨x0, x1, x2, x3, x4⟩, hrow, hgl⟩ := hT.parts
 have hlI : (l.length : Int) ≤ 4611686018427387904 := by omega
 show Calls Tryz.prog 68 #[ptr g o] W fun e w' => e = .returned (.bool (((l.length : Int) == 2) && l.all exV)) ∧ Gr (fun _ => False) W w'
 have hev := Lib.hid (every_c (expression_c N) l hl (fun _ _ => trivial) W la lc trivial hrow hN)
 clear hrow hT x1 x2 x3
 cases q : ((l.length : Int) == 2) with
 | false =>
  go_enter Tryz.func68, Tryz.ntmps68
  go_wp2_with fail
  go_ret
  exact ⟨rfl, Gr.refl _ _⟩
 | true =>
  go_enter Tryz.func68, Tryz.ntmps68
  go_wp2_with fail
  refine hev.out.mono ?_
  rintro e w1 ⟨rfl, g1⟩
  go_wp2_with fail
  go_ret
  exact ⟨by rw [Bool.true_and]; rfl, g1⟩
set_option maxRecDepth 100000 in
set_option maxHeartbeats 1600000 in
theorem parts10 (N : Nat) (s : ByteArray) (n : Int) (b : List Int) (l : List Tr) (hl : l.length ≤ 4611686018427387904) : PartsOk N (.mk 10 s n b l) := by
 intro W g o hT hg hN
 obtain ⟨ba, bc, la, lc, ⟨x0, x1, x2, x3, x4⟩, hrow, hgl⟩ := hT.parts
 have hlI : (l.length : Int) ≤ 4611686018427387904 := by omega
 show Calls Tryz.prog 68 #[ptr g o] W fun e w' => e = .returned (.bool (((l.length : Int) == 2) && l.all exV)) ∧ Gr (fun _ => False) W w'
 have hev := Lib.hid (every_c (expression_c N) l hl (fun _ _ => trivial) W la lc trivial hrow hN)
 clear hrow hT x1 x2 x3
 cases q : ((l.length : Int) == 2) with
 | false =>
  go_enter Tryz.func68, Tryz.ntmps68
  go_wp2_with fail
  go_ret
  exact ⟨rfl, Gr.refl _ _⟩
 | true =>
  go_enter Tryz.func68, Tryz.ntmps68
  go_wp2_with fail
  refine hev.out.mono ?_
  rintro e w1 ⟨rfl, g1⟩
  go_wp2_with fail
  go_ret
  exact ⟨by rw [Bool.true_and]; rfl, g1⟩
set_option maxRecDepth 100000 in
set_option maxHeartbeats 1600000 in
theorem parts16 (N : Nat) (s : ByteArray) (n : Int) (b : List Int) (l : List Tr) (hl : l.length ≤ 4611686018427387904) : PartsOk N (.mk 16 s n b l) := by
 intro W g o hT hg hN
 obtain ⟨ba, bc, la, lc, ⟨x0, x1, x2, x3, x4⟩, hrow, hgl⟩ := hT.parts
 have hlI : (l.length : Int) ≤ 4611686018427387904 := by omega
 show Calls Tryz.prog 68 #[ptr g o] W fun e w' => e = .returned (.bool (decide (0 < l.length) && l.all exV)) ∧ Gr (fun _ => False) W w'
 by_cases hp : 0 < l.length
 case neg =>
  obtain rfl : l = [] := List.eq_nil_of_length_eq_zero (by omega)
  clear hrow hT x1 x2 x3
  go_enter Tryz.func68, Tryz.ntmps68
  go_wp2_with fail
  go_ret
  exact ⟨rfl, Gr.refl _ _⟩
 have hp1 : (0 : Int) < (l.length : Int) := by omega
 have hp2 : l ≠ [] := by intro e; rw [e] at hp; simp at hp
 rw [show decide (0 < l.length) = true by simpa using hp]
 have hev := Lib.hid (every_c (expression_c N) l hl (fun _ _ => trivial) W la lc trivial hrow hN)
 clear hrow hT x1 x2 x3
 go_enter Tryz.func68, Tryz.ntmps68
 go_wp2_with fail
 refine hev.out.mono ?_
 rintro e w1 ⟨rfl, g1⟩
 go_wp2_with fail
 go_ret
 exact ⟨by rw [Bool.true_and]; rfl, g1⟩
set_option maxRecDepth 100000 in
set_option maxHeartbeats 1600000 in
theorem parts18 (N : Nat) (s : ByteArray) (n : Int) (b : List Int) (l : List Tr) (hl : l.length ≤ 4611686018427387904) : PartsOk N (.mk 18 s n b l) := by
 intro W g o hT hg hN
 obtain ⟨ba, bc, la, lc, ⟨x0, x1, x2, x3, x4⟩, hrow, hgl⟩ := hT.parts
 have hlI : (l.length : Int) ≤ 4611686018427387904 := by omega
 show Calls Tryz.prog 68 #[ptr g o] W fun e w' => e = .returned (.bool (l.all (isK 17))) ∧ Gr (fun _ => False) W w'
 clear hT x1 x2 x3
 go_enter Tryz.func68, Tryz.ntmps68
 go_wp2_with fail
 refine (mkis_c W 17).mono ?_
 rintro e w1 ⟨rfl, hc1, g1⟩
 have hev := Lib.hid (every_c (isq_c N W.heap.size 17 hN) l hl (fun _ _ => trivial) w1 la lc hc1 (hrow.g0 g1) (Nat.le_trans hN g1.size))
 clear hrow
 go_wp2_with fail
 refine hev.out.mono ?_
 rintro e w2 ⟨rfl, g2⟩
 go_wp2_with fail
 go_ret
 exact ⟨rfl, g1.trans g2⟩
set_option maxRecDepth 100000 in
set_option maxHeartbeats 1600000 in
theorem parts13 (N : Nat) (s : ByteArray) (n : Int) (b : List Int) (l : List Tr) (hl : l.length ≤ 4611686018427387904) : PartsOk N (.mk 13 s n b l) := by
 intro W g o hT hg hN
 obtain ⟨ba, bc, la, lc, ⟨x0, x1, x2, x3, x4⟩, hrow, hgl⟩ := hT.parts
 have hlI : (l.length : Int) ≤ 4611686018427387904 := by omega
 show Calls Tryz.prog 68 #[ptr g o] W fun e w' => e = .returned (.bool (decide (0 < l.length) && (clsV l).all (isK 15))) ∧ Gr (fun _ => False) W w'
 by_cases hp : 0 < l.length
 case neg =>
  obtain rfl : l = [] := List.eq_nil_of_length_eq_zero (by omega)
  clear hrow hT x1 x2 x3
  go_enter Tryz.func68, Tryz.ntmps68
  go_wp2_with fail
  go_ret
  exact ⟨rfl, Gr.refl _ _⟩
 have hp1 : (0 : Int) < (l.length : Int) := by omega
 have hp2 : l ≠ [] := by intro e; rw [e] at hp; simp at hp
 rw [show decide (0 < l.length) = true by simpa using hp]
 have hcl := Lib.hid (clauses_c N W g o 13 s n b l hl hT la lc x4 hrow)
 have hrc : Hid (RowAt N W la (clsV l) ∧ (clsV l).length ≤ l.length) := by
  show _ ∧ _
  unfold clsV
  split
  · exact ⟨hrow.dropLast, by rw [List.length_dropLast]; omega⟩
  · exact ⟨hrow, Nat.le_refl _⟩
 clear hrow hT x1 x2 x3
 generalize clsV l = cl at hcl hrc ⊢
 go_enter Tryz.func68, Tryz.ntmps68
 go_wp2_with fail
 refine hcl.out.mono ?_
 rintro e w1 ⟨c, rfl, g1⟩
 go_wp2_with fail
 refine (mkis_c w1 15).mono ?_
 rintro e w2 ⟨rfl, hc2, g2⟩
 have g12 := g1.trans g2
 have hev := Lib.hid (every_c (isq_c N w1.heap.size 15 (Nat.le_trans hN g1.size)) cl (Nat.le_trans hrc.out.2 hl) (fun _ _ => trivial) w2 la c hc2 (hrc.out.1.g0 g12) (Nat.le_trans hN g12.size))
 go_wp2_with fail
 refine hev.out.mono ?_
 rintro e w3 ⟨rfl, g3⟩
 go_wp2_with fail
 go_ret
 exact ⟨by rw [Bool.true_and]; rfl, g12.trans g3⟩
set_option maxRecDepth 100000 in
set_option maxHeartbeats 1600000 in
theorem parts14 (N : Nat) (s : ByteArray) (n : Int) (b : List Int) (l : List Tr) (hl : l.length ≤ 4611686018427387904) : PartsOk N (.mk 14 s n b l) := by
 intro W g o hT hg hN
 obtain ⟨ba, bc, la, lc, ⟨x0, x1, x2, x3, x4⟩, hrow, hgl⟩ := hT.parts
 have hlI : (l.length : Int) ≤ 4611686018427387904 := by omega
 show Calls Tryz.prog 68 #[ptr g o] W fun e w' => e = .returned (.bool (((l.length : Int) == 2) && ((l[0]?.map exV).getD false && (l[1]?.map (isK 16)).getD false))) ∧ Gr (fun _ => False) W w'
 cases q : ((l.length : Int) == 2) with
 | false =>
  clear hrow hT x1 x2 x3
  go_enter Tryz.func68, Tryz.ntmps68
  go_wp2_with fail
  go_ret
  exact ⟨rfl, Gr.refl _ _⟩
 | true =>
  have hl2 : l.length = 2 := by simp at q; omega
  obtain ⟨A, B, rfl⟩ := two_of_len hl2
  obtain ⟨g', o', rfl, hg', hA⟩ := hrow 0 A rfl
  obtain ⟨g'', o'', e2, hg'', hB⟩ := hrow 1 B rfl
  cases e2
  obtain ⟨k2, s2, n2, b2, l2, rfl, z0, hgl2⟩ := hB.kind
  show Calls Tryz.prog 68 #[ptr g o] W fun e w' => e = .returned (.bool (true && (exV A && (k2 == 16)))) ∧ Gr (fun _ => False) W w'
  have hex := Lib.hid ((expression_c N).2.2 W g' (o' + 0 * 5) A trivial trivial hA hg' hN)
  have z0' : W.cell? ⟨g', o' + 5, none⟩ = some (.int .i64 k2) := z0
  have hex' : Hid (Calls Tryz.prog 90 #[ptr g' o'] W fun e w' => e = .returned (.bool (exV A)) ∧ Gr (fun _ => False) W w') := hex.out
  clear hex z0 hrow hT x1 x2 x3 hA hB q
  cases q1 : exV A with
  | false =>
   rw [q1] at hex'
   go_enter Tryz.func68, Tryz.ntmps68
   go_wp2_with fail
   refine hex'.out.mono ?_
   rintro e w1 ⟨rfl, g1⟩
   go_wp2_with fail
   go_ret
   exact ⟨rfl, g1⟩
  | true =>
   rw [q1] at hex'
   go_enter Tryz.func68, Tryz.ntmps68
   go_wp2_with fail
   refine hex'.out.mono ?_
   rintro e w1 ⟨rfl, g1⟩
   have z1 := cell_gr z0' g1 (fun e => e)
   have hs1 := g1.size
   have hgw : g' < w1.heap.size := by omega
   go_wp2_with fail
   go_ret
   exact ⟨rfl, g1⟩
set_option maxRecDepth 100000 in
set_option maxHeartbeats 1600000 in
theorem parts15 (N : Nat) (s : ByteArray) (n : Int) (b : List Int) (l : List Tr) (hl : l.length ≤ 4611686018427387904) : PartsOk N (.mk 15 s n b l) := by
 intro W g o hT hg hN
 obtain ⟨ba, bc, la, lc, ⟨x0, x1, x2, x3, x4⟩, hrow, hgl⟩ := hT.parts
 have hlI : (l.length : Int) ≤ 4611686018427387904 := by omega
 show Calls Tryz.prog 68 #[ptr g o] W fun e w' => e = .returned (.bool (((l.length : Int) == 2) && ((l[0]?.map exV).getD false && (l[1]?.map (isK 16)).getD false))) ∧ Gr (fun _ => False) W w'
 cases q : ((l.length : Int) == 2) with
 | false =>
  clear hrow hT x1 x2 x3
  go_enter Tryz.func68, Tryz.ntmps68
  go_wp2_with fail
  go_ret
  exact ⟨rfl, Gr.refl _ _⟩
 | true =>
  have hl2 : l.length = 2 := by simp at q; omega
  obtain ⟨A, B, rfl⟩ := two_of_len hl2
  obtain ⟨g', o', rfl, hg', hA⟩ := hrow 0 A rfl
  obtain ⟨g'', o'', e2, hg'', hB⟩ := hrow 1 B rfl
  cases e2
  obtain ⟨k2, s2, n2, b2, l2, rfl, z0, hgl2⟩ := hB.kind
  show Calls Tryz.prog 68 #[ptr g o] W fun e w' => e = .returned (.bool (true && (exV A && (k2 == 16)))) ∧ Gr (fun _ => False) W w'
  have hex := Lib.hid ((expression_c N).2.2 W g' (o' + 0 * 5) A trivial trivial hA hg' hN)
  have z0' : W.cell? ⟨g', o' + 5, none⟩ = some (.int .i64 k2) := z0
  have hex' : Hid (Calls Tryz.prog 90 #[ptr g' o'] W fun e w' => e = .returned (.bool (exV A)) ∧ Gr (fun _ => False) W w') := hex.out
  clear hex z0 hrow hT x1 x2 x3 hA hB q
  cases q1 : exV A with
  | false =>
   rw [q1] at hex'
   go_enter Tryz.func68, Tryz.ntmps68
   go_wp2_with fail
   refine hex'.out.mono ?_
   rintro e w1 ⟨rfl, g1⟩
   go_wp2_with fail
   go_ret
   exact ⟨rfl, g1⟩
  | true =>
   rw [q1] at hex'
   go_enter Tryz.func68, Tryz.ntmps68
   go_wp2_with fail
   refine hex'.out.mono ?_
   rintro e w1 ⟨rfl, g1⟩
   have z1 := cell_gr z0' g1 (fun e => e)
   have hs1 := g1.size
   have hgw : g' < w1.heap.size := by omega
   go_wp2_with fail
   go_ret
   exact ⟨rfl, g1⟩
set_option maxRecDepth 100000 in
set_option maxHeartbeats 1600000 in
theorem partsE (N : Nat) (k : Int) (s : ByteArray) (n : Int) (b : List Int) (l : List Tr) (hk : ¬ (1 ≤ k ∧ k ≤ 18)) : PartsOk N (.mk k s n b l) := by
 intro W g o hT hg hN
 obtain ⟨ba, bc, la, lc, ⟨x0, x1, x2, x3, x4⟩, hrow, hgl⟩ := hT.parts
 have e : partsV (.mk k s n b l) = false := by
  simp only [partsV]
  rw [if_neg (by omega), if_neg (by omega), if_neg (by omega), if_neg (by omega), if_neg (by omega), if_neg (by omega), if_neg (by omega), if_neg (by omega), if_neg (by omega), if_neg (by omega)]
 rw [e]
 have q1 : (k == 1) = false := by simp; omega
 have q2 : (k == 2) = false := by simp; omega
 have q3 : (k == 3) = false := by simp; omega
 have q4 : (k == 4) = false := by simp; omega
 have q5 : (k == 5) = false := by simp; omega
 have q6 : (k == 6) = false := by simp; omega
 have q7 : (k == 7) = false := by simp; omega
 have q8 : (k == 8) = false := by simp; omega
 have q9 : (k == 9) = false := by simp; omega
 have q10 : (k == 10) = false := by simp; omega
 have q11 : (k == 11) = false := by simp; omega
 have q12 : (k == 12) = false := by simp; omega
 have q13 : (k == 13) = false := by simp; omega
 have q14 : (k == 14) = false := by simp; omega
 have q15 : (k == 15) = false := by simp; omega
 have q16 : (k == 16) = false := by simp; omega
 have q17 : (k == 17) = false := by simp; omega
 have q18 : (k == 18) = false := by simp; omega
 clear hrow hT x1 x2 x3 hk e
 go_enter Tryz.func68, Tryz.ntmps68
 go_wp2_with fail
 go_ret
 exact ⟨rfl, Gr.refl _ _⟩
end Go.Proofs.YtjedbfbolifjjaaGreatDoor
