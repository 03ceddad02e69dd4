/-
  Which parts may stand in a TCase, in a TFun; in any part.
  Values of parts; which parts are not as they ought to be.
-/
import Derived.Test.YtjedbfbolifjjaaGreatDoorKF
import Derived.Test.YtjedbfbolifjjaaGreatDoorKB
set_option linter.unusedVariables false
set_option linter.unusedSimpArgs false
namespace Go.Proofs.YtjedbfbolifjjaaGreatDoor
open Go.RowKit Go.Maps
variable {W W' : World}
theorem RowAt.tail {N g o : Nat} {A : Tr} {l : List Tr} (h : RowAt N W (some ⟨g, o, none⟩) (A :: l)) : RowAt N W (some ⟨g, o + 5, none⟩) l := fun i T hi => by
 obtain ⟨g', o', e, h1, h2⟩ := h (i + 1) T (by simpa using hi)
 cases e
 exact ⟨g, o + 5, rfl, h1, by rw [show o + 5 + i * 5 = o + (i + 1) * 5 by omega]; exact h2⟩
set_option maxRecDepth 100000 in
set_option maxHeartbeats 1600000 in
theorem parts12 (N : Nat) (s : ByteArray) (n : Int) (b : List Int) (l : List Tr) (hl : l.length ≤ 4611686018427387904) : PartsOk N (.mk 12 s n b l) := by
 intro W g o hT hg hN
 obtain ⟨ba, bc, la, lc, ⟨x0, x1, x2, x3, x4⟩, hrow, hgl⟩ := hT.parts
 have hlI : (l.length : Int) ≤ 4611686018427387904 := by omega
 have hcap := hT.cap x4
 show Calls Tryz.prog 68 #[ptr g o] W fun e w' => e = .returned (.bool (decide (1 < l.length) && (l.head?.map exV).getD false && (l.drop 1).all (isK 15))) ∧ Gr (fun _ => False) W w'
 by_cases hp : 1 < l.length
 case neg =>
  have hd : decide ((1 : Int) < (l.length : Int)) = false := by simp; omega
  rw [show decide (1 < l.length) = false by simpa using hp]
  replace hp := Lib.hid hp
  clear hrow hT x1 x2 x3
  go_enter Tryz.func68, Tryz.ntmps68
  go_wp2_with fail
  refine wp_region_L (T := fun _ => True) (L := 14) (by kernel_rfl) ?_
  have TS : True := trivial
  refine wpAnyL_at (i := 0) (v := .slice la l.length lc) (some 46) rfl rfl (by kernel_rfl) (by kernel_rfl) (by kernel_rfl) (by kernel_rfl) (by decide) (fun _ _ _ h => h) (Or.inl ⟨by rfl, ?_⟩) TS ?_
  · intro w hSw
    go_simp
  try simp only [Act.put, sa1, sa2, sa3]
  refine wpAnyL_at (i := 1) (v := .int .i64 (l.length : Int)) (some 47) rfl rfl (by kernel_rfl) (by kernel_rfl) (by kernel_rfl) (by kernel_rfl) (by decide) (fun _ _ _ h => h) (Or.inl ⟨by rfl, ?_⟩) TS ?_
  · intro w hSw
    go_simp
  try simp only [Act.put, sa1, sa2, sa3]
  refine wpAnyL_at (i := 2) (v := .bool false) (some 48) rfl rfl (by kernel_rfl) (by kernel_rfl) (by kernel_rfl) (by kernel_rfl) (by decide) (fun _ _ _ h => h) (Or.inl ⟨by rfl, ?_⟩) TS ?_
  · intro w hSw
    go_simp
  try simp only [Act.put, sa1, sa2, sa3]
  refine wpAnyL_at (i := 3) (v := .bool false) (some 49) rfl rfl (by kernel_rfl) (by kernel_rfl) (by kernel_rfl) (by kernel_rfl) (by decide) (fun _ _ _ h => h) (Or.inl ⟨by rfl, ?_⟩) TS ?_
  · intro w hSw
    go_simp
  try simp only [Act.put, sa1, sa2, sa3]
  refine wpAnyL_at (i := 4) (v := undef) (some 50) rfl rfl (by kernel_rfl) (by kernel_rfl) (by kernel_rfl) (by kernel_rfl) (by decide) (fun _ _ _ h => h) (Or.inr ⟨by rfl, rfl⟩) TS ?_
  try simp only [Act.put, sa1, sa2, sa3]
  refine wpAnyL_at (i := 5) (v := undef) (some 51) rfl rfl (by kernel_rfl) (by kernel_rfl) (by kernel_rfl) (by kernel_rfl) (by decide) (fun _ _ _ h => h) (Or.inr ⟨by rfl, rfl⟩) TS ?_
  try simp only [Act.put, sa1, sa2, sa3]
  refine wpAnyL_at (i := 6) (v := undef) (some 52) rfl rfl (by kernel_rfl) (by kernel_rfl) (by kernel_rfl) (by kernel_rfl) (by decide) (fun _ _ _ h => h) (Or.inr ⟨by rfl, rfl⟩) TS ?_
  try simp only [Act.put, sa1, sa2, sa3]
  refine wpAnyL_at (i := 7) (v := .bool false) (some 53) rfl rfl (by kernel_rfl) (by kernel_rfl) (by kernel_rfl) (by kernel_rfl) (by decide) (fun _ _ _ h => h) (Or.inl ⟨by rfl, ?_⟩) TS ?_
  · intro w hSw
    go_simp
  try simp only [Act.put, sa1, sa2, sa3]
  refine wpAnyL_at (i := 8) (v := .bool false) (some 54) rfl rfl (by kernel_rfl) (by kernel_rfl) (by kernel_rfl) (by kernel_rfl) (by decide) (fun _ _ _ h => h) (Or.inl ⟨by rfl, ?_⟩) TS ?_
  · intro w hSw
    go_simp
  try simp only [Act.put, sa1, sa2, sa3]
  refine wpAnyL_at (i := 9) (v := undef) (some 55) rfl rfl (by kernel_rfl) (by kernel_rfl) (by kernel_rfl) (by kernel_rfl) (by decide) (fun _ _ _ h => h) (Or.inr ⟨by rfl, rfl⟩) TS ?_
  try simp only [Act.put, sa1, sa2, sa3]
  refine wpAnyL_at (i := 10) (v := undef) (some 56) rfl rfl (by kernel_rfl) (by kernel_rfl) (by kernel_rfl) (by kernel_rfl) (by decide) (fun _ _ _ h => h) (Or.inr ⟨by rfl, rfl⟩) TS ?_
  try simp only [Act.put, sa1, sa2, sa3]
  refine wpAnyL_at (i := 11) (v := undef) (some 57) rfl rfl (by kernel_rfl) (by kernel_rfl) (by kernel_rfl) (by kernel_rfl) (by decide) (fun _ _ _ h => h) (Or.inr ⟨by rfl, rfl⟩) TS ?_
  try simp only [Act.put, sa1, sa2, sa3]
  refine wpAnyL_at (i := 12) (v := undef) (some 58) rfl rfl (by kernel_rfl) (by kernel_rfl) (by kernel_rfl) (by kernel_rfl) (by decide) (fun _ _ _ h => h) (Or.inr ⟨by rfl, rfl⟩) TS ?_
  try simp only [Act.put, sa1, sa2, sa3]
  refine wpAnyL_at (i := 13) (v := .bool false) (some 59) rfl rfl (by kernel_rfl) (by kernel_rfl) (by kernel_rfl) (by kernel_rfl) (by decide) (fun _ _ _ h => h) (Or.inl ⟨by rfl, ?_⟩) TS ?_
  · intro w hSw
    go_simp
  try simp only [Act.put, sa1, sa2, sa3]
  refine wpAnyL_one (i := 14) (by kernel_rfl) rfl (fun K hK => ?_)
  go_simp
  refine hK.out _ _ (fun h => absurd rfl h) ?_
  clear hK K
  try simp only [Act.put, sa1, sa2, sa3]
  refine wpAnyL_done (by kernel_rfl) ?_ _
  refine NoPanic.normal ?_
  go_wp2_with fail
  go_ret
  exact ⟨rfl, Gr.drew _ _⟩
 obtain ⟨A, r, rfl⟩ : ∃ A r, l = A :: r := by cases l with
  | nil => simp at hp
  | cons A r => exact ⟨A, r, rfl⟩
 obtain ⟨g', o', rfl, hg', hA⟩ := hrow 0 A rfl
 have hrt := Lib.hid hrow.tail
 have hd : decide ((1 : Int) < ((A :: r).length : Int)) = true := by simp at hp ⊢; omega
 rw [show decide (1 < (A :: r).length) = true by simpa using hp]
 show Calls Tryz.prog 68 #[ptr g o] W fun e w' => e = .returned (.bool (true && exV A && r.all (isK 15))) ∧ Gr (fun _ => False) W w'
 have hex : Hid (∀ w, Gr (fun _ => False) W w → Calls Tryz.prog 90 #[ptr g' o'] w fun e w' => e = .returned (.bool (exV A)) ∧ Gr (fun _ => False) w w') := fun w gw => (expression_c N).2.2 w g' o' A trivial trivial (hA.g0 gw hg') hg' (Nat.le_trans hN gw.size)
 have hrl : r.length ≤ 4611686018427387904 := by simp at hl; omega
 obtain ⟨m, hm⟩ : ∃ m, (A :: r).length = m := ⟨_, rfl⟩
 have hrm : Hid (m = r.length + 1) := by show _ = _; rw [← hm]; rfl
 rw [hm] at x4 hd hcap hlI
 have hm1 : (1 : Int) ≤ (m : Int) := by have := hrm.out; omega
 have hmc : (m : Int) ≤ (lc : Int) := by omega
 have hm2 : 1 ≤ m := by have := hrm.out; omega
 have hm3 : ¬ m = 0 := by omega
 have hlc1 : ¬ lc = 1 := by
  have : (1 : Int) < (m : Int) := by simpa using hd
  omega
 clear hrow hT x1 x2 x3 hp hA hl hm
 go_enter Tryz.func68, Tryz.ntmps68
 go_wp2_with fail
 refine wp_region_L (T := fun _ => True) (L := 14) (by kernel_rfl) ?_
 have TS : True := trivial
 have Gw : Gr (fun _ => False) W W.drew := Gr.drew _ _
 generalize W.drew = w at Gw ⊢
 refine wpAnyL_at (i := 0) (v := .slice (some ⟨g', o', none⟩) m lc) (some 46) rfl rfl (by kernel_rfl) (by kernel_rfl) (by kernel_rfl) (by kernel_rfl) (by decide) (fun _ _ _ h => h) (Or.inl ⟨by rfl, ?_⟩) TS ?_
 · intro w hSw
   go_simp
 try simp only [Act.put, sa1, sa2, sa3]
 refine wpAnyL_at (i := 1) (v := .int .i64 (m : Int)) (some 47) rfl rfl (by kernel_rfl) (by kernel_rfl) (by kernel_rfl) (by kernel_rfl) (by decide) (fun _ _ _ h => h) (Or.inl ⟨by rfl, ?_⟩) TS ?_
 · intro w hSw
   go_simp
 try simp only [Act.put, sa1, sa2, sa3]
 refine wpAnyL_at (i := 2) (v := .bool true) (some 48) rfl rfl (by kernel_rfl) (by kernel_rfl) (by kernel_rfl) (by kernel_rfl) (by decide) (fun _ _ _ h => h) (Or.inl ⟨by rfl, ?_⟩) TS ?_
 · intro w hSw
   go_simp
 try simp only [Act.put, sa1, sa2, sa3]
 refine wpAnyL_at (i := 3) (v := .bool true) (some 49) rfl rfl (by kernel_rfl) (by kernel_rfl) (by kernel_rfl) (by kernel_rfl) (by decide) (fun _ _ _ h => h) (Or.inl ⟨by rfl, ?_⟩) TS ?_
 · intro w hSw
   go_simp
 try simp only [Act.put, sa1, sa2, sa3]
 refine wpAnyL_at (i := 4) (v := .slice (some ⟨g', o', none⟩) m lc) (some 50) rfl rfl (by kernel_rfl) (by kernel_rfl) (by kernel_rfl) (by kernel_rfl) (by decide) (fun _ _ _ h => h) (Or.inl ⟨by rfl, ?_⟩) TS ?_
 · intro w hSw
   go_simp
 try simp only [Act.put, sa1, sa2, sa3]
 refine wpAnyL_at (i := 5) (v := ptr g' o') (some 51) rfl rfl (by kernel_rfl) (by kernel_rfl) (by kernel_rfl) (by kernel_rfl) (by decide) (fun _ _ _ h => h) (Or.inl ⟨by rfl, ?_⟩) TS ?_
 · intro w hSw
   go_simp
 try simp only [Act.put, sa1, sa2, sa3]
 refine wpAnyL_one (i := 6) (by kernel_rfl) rfl (fun K hK => ?_)
 go_simp
 refine (hex.out w Gw).mono ?_
 rintro e w2 ⟨rfl, g2⟩
 have G2 := Gw.trans g2
 cases q : exV A with
 | false =>
  refine hK.out _ _ (fun _ => TS) ?_
  clear hK K
  try simp only [Act.put, sa1, sa2, sa3]
  refine wpAnyL_at (i := 7) (v := .bool false) (some 53) rfl rfl (by kernel_rfl) (by kernel_rfl) (by kernel_rfl) (by kernel_rfl) (by decide) (fun _ _ _ h => h) (Or.inl ⟨by rfl, ?_⟩) TS ?_
  · intro w hSw
    go_simp
  try simp only [Act.put, sa1, sa2, sa3]
  refine wpAnyL_at (i := 8) (v := .bool false) (some 54) rfl rfl (by kernel_rfl) (by kernel_rfl) (by kernel_rfl) (by kernel_rfl) (by decide) (fun _ _ _ h => h) (Or.inl ⟨by rfl, ?_⟩) TS ?_
  · intro w hSw
    go_simp
  try simp only [Act.put, sa1, sa2, sa3]
  refine wpAnyL_at (i := 9) (v := undef) (some 55) rfl rfl (by kernel_rfl) (by kernel_rfl) (by kernel_rfl) (by kernel_rfl) (by decide) (fun _ _ _ h => h) (Or.inr ⟨by rfl, rfl⟩) TS ?_
  try simp only [Act.put, sa1, sa2, sa3]
  refine wpAnyL_at (i := 10) (v := undef) (some 56) rfl rfl (by kernel_rfl) (by kernel_rfl) (by kernel_rfl) (by kernel_rfl) (by decide) (fun _ _ _ h => h) (Or.inr ⟨by rfl, rfl⟩) TS ?_
  try simp only [Act.put, sa1, sa2, sa3]
  refine wpAnyL_at (i := 11) (v := undef) (some 57) rfl rfl (by kernel_rfl) (by kernel_rfl) (by kernel_rfl) (by kernel_rfl) (by decide) (fun _ _ _ h => h) (Or.inr ⟨by rfl, rfl⟩) TS ?_
  try simp only [Act.put, sa1, sa2, sa3]
  refine wpAnyL_at (i := 12) (v := undef) (some 58) rfl rfl (by kernel_rfl) (by kernel_rfl) (by kernel_rfl) (by kernel_rfl) (by decide) (fun _ _ _ h => h) (Or.inr ⟨by rfl, rfl⟩) TS ?_
  try simp only [Act.put, sa1, sa2, sa3]
  refine wpAnyL_at (i := 13) (v := .bool false) (some 59) rfl rfl (by kernel_rfl) (by kernel_rfl) (by kernel_rfl) (by kernel_rfl) (by decide) (fun _ _ _ h => h) (Or.inl ⟨by rfl, ?_⟩) TS ?_
  · intro w hSw
    go_simp
  try simp only [Act.put, sa1, sa2, sa3]
  refine wpAnyL_one (i := 14) (by kernel_rfl) rfl (fun K hK => ?_)
  go_simp
  refine hK.out _ _ (fun h => absurd rfl h) ?_
  clear hK K
  try simp only [Act.put, sa1, sa2, sa3]
  refine wpAnyL_done (by kernel_rfl) ?_ _
  refine NoPanic.normal ?_
  go_wp2_with fail
  go_ret
  exact ⟨by rw [q]; rfl, G2⟩
 | true =>
  refine hK.out _ _ (fun _ => TS) ?_
  clear hK K
  try simp only [Act.put, sa1, sa2, sa3]
  refine wpAnyL_at (i := 7) (v := .bool true) (some 53) rfl rfl (by kernel_rfl) (by kernel_rfl) (by kernel_rfl) (by kernel_rfl) (by decide) (fun _ _ _ h => h) (Or.inl ⟨by rfl, ?_⟩) TS ?_
  · intro w hSw
    go_simp
  try simp only [Act.put, sa1, sa2, sa3]
  refine wpAnyL_at (i := 8) (v := .bool true) (some 54) rfl rfl (by kernel_rfl) (by kernel_rfl) (by kernel_rfl) (by kernel_rfl) (by decide) (fun _ _ _ h => h) (Or.inl ⟨by rfl, ?_⟩) TS ?_
  · intro w hSw
    go_simp
  try simp only [Act.put, sa1, sa2, sa3]
  refine wpAnyL_at (i := 9) (v := .slice (some ⟨g', o', none⟩) m lc) (some 55) rfl rfl (by kernel_rfl) (by kernel_rfl) (by kernel_rfl) (by kernel_rfl) (by decide) (fun _ _ _ h => h) (Or.inl ⟨by rfl, ?_⟩) TS ?_
  · intro w hSw
    go_simp
  try simp only [Act.put, sa1, sa2, sa3]
  refine wpAnyL_at (i := 10) (v := .slice (some ⟨g', o' + 5, none⟩) (m - 1) (lc - 1)) (some 56) rfl rfl (by kernel_rfl) (by kernel_rfl) (by kernel_rfl) (by kernel_rfl) (by decide) (fun _ _ _ h => h) (Or.inl ⟨by rfl, ?_⟩) TS ?_
  · intro w hSw
    go_simp
  try simp only [Act.put, sa1, sa2, sa3]
  refine wpAnyL_one (i := 11) (by kernel_rfl) rfl (fun K hK => ?_)
  go_simp
  refine (mkis_c w2 15).mono ?_
  rintro e w3 ⟨rfl, hc3, g3⟩
  have G3 := G2.trans g3
  have hev := every_c (isq_c N w2.heap.size 15 (Nat.le_trans hN G2.size)) r hrl (fun _ _ => trivial) w3 (some ⟨g', o' + 5, none⟩) (lc - 1) hc3 (hrt.out.g0 G3) (Nat.le_trans hN G3.size)
  rw [show r.length = m - 1 by have := hrm.out; omega] at hev
  refine hK.out _ _ (fun _ => TS) ?_
  clear hK K
  try simp only [Act.put, sa1, sa2, sa3]
  refine wpAnyL_one (i := 12) (by kernel_rfl) rfl (fun K hK => ?_)
  go_simp
  refine hev.mono ?_
  rintro e w4 ⟨rfl, g4⟩
  refine hK.out _ _ (fun _ => TS) ?_
  clear hK K
  try simp only [Act.put, sa1, sa2, sa3]
  refine wpAnyL_at (i := 13) (v := .bool (r.all (isK 15))) (some 59) rfl rfl (by kernel_rfl) (by kernel_rfl) (by kernel_rfl) (by kernel_rfl) (by decide) (fun _ _ _ h => h) (Or.inl ⟨by rfl, ?_⟩) TS ?_
  · intro w hSw
    go_simp
  try simp only [Act.put, sa1, sa2, sa3]
  refine wpAnyL_one (i := 14) (by kernel_rfl) rfl (fun K hK => ?_)
  go_simp
  refine hK.out _ _ (fun h => absurd rfl h) ?_
  clear hK K
  try simp only [Act.put, sa1, sa2, sa3]
  refine wpAnyL_done (by kernel_rfl) ?_ _
  refine NoPanic.normal ?_
  go_wp2_with fail
  go_ret
  exact ⟨by rw [q]; rfl, G3.trans g4⟩
set_option maxRecDepth 100000 in
set_option maxHeartbeats 1600000 in
theorem parts17 (N : Nat) (s : ByteArray) (n : Int) (b : List Int) (l : List Tr) (hl : l.length ≤ 4611686018427387904) : PartsOk N (.mk 17 s n b l) := by
 intro W g o hT hg hN
 obtain ⟨ba, bc, la, lc, ⟨x0, x1, x2, x3, x4⟩, hrow, hgl⟩ := hT.parts
 have hlI : (l.length : Int) ≤ 4611686018427387904 := by omega
 have hcap := hT.cap x4
 show Calls Tryz.prog 68 #[ptr g o] W fun e w' => e = .returned (.bool (decide (0 < l.length) && l.dropLast.all (isK 3) && (l.getLast?.map (isK 16)).getD false)) ∧ Gr (fun _ => False) W w'
 cases hU : l.getLast? with
 | none =>
  obtain rfl : l = [] := List.getLast?_eq_none_iff.1 hU
  clear hrow hT x1 x2 x3 hU
  go_enter Tryz.func68, Tryz.ntmps68
  go_wp2_with fail
  refine wp_region_L (T := fun _ => True) (L := 17) (by kernel_rfl) ?_
  have TS : True := trivial
  refine wpAnyL_at (i := 0) (v := .int .i64 (-1)) (some 103) rfl rfl (by kernel_rfl) (by kernel_rfl) (by kernel_rfl) (by kernel_rfl) (by decide) (fun _ _ _ h => h) (Or.inl ⟨by rfl, ?_⟩) TS ?_
  · intro w hSw
    go_simp
  try simp only [Act.put, sa1, sa2, sa3]
  refine wpAnyL_at (i := 1) (v := .bool false) (some 104) rfl rfl (by kernel_rfl) (by kernel_rfl) (by kernel_rfl) (by kernel_rfl) (by decide) (fun _ _ _ h => h) (Or.inl ⟨by rfl, ?_⟩) TS ?_
  · intro w hSw
    go_simp
  try simp only [Act.put, sa1, sa2, sa3]
  refine wpAnyL_at (i := 2) (v := .bool false) (some 105) rfl rfl (by kernel_rfl) (by kernel_rfl) (by kernel_rfl) (by kernel_rfl) (by decide) (fun _ _ _ h => h) (Or.inl ⟨by rfl, ?_⟩) TS ?_
  · intro w hSw
    go_simp
  try simp only [Act.put, sa1, sa2, sa3]
  refine wpAnyL_at (i := 3) (v := undef) (some 106) rfl rfl (by kernel_rfl) (by kernel_rfl) (by kernel_rfl) (by kernel_rfl) (by decide) (fun _ _ _ h => h) (Or.inr ⟨by rfl, rfl⟩) TS ?_
  try simp only [Act.put, sa1, sa2, sa3]
  refine wpAnyL_at (i := 4) (v := undef) (some 107) rfl rfl (by kernel_rfl) (by kernel_rfl) (by kernel_rfl) (by kernel_rfl) (by decide) (fun _ _ _ h => h) (Or.inr ⟨by rfl, rfl⟩) TS ?_
  try simp only [Act.put, sa1, sa2, sa3]
  refine wpAnyL_at (i := 5) (v := undef) (some 108) rfl rfl (by kernel_rfl) (by kernel_rfl) (by kernel_rfl) (by kernel_rfl) (by decide) (fun _ _ _ h => h) (Or.inr ⟨by rfl, rfl⟩) TS ?_
  try simp only [Act.put, sa1, sa2, sa3]
  refine wpAnyL_at (i := 6) (v := undef) (some 109) rfl rfl (by kernel_rfl) (by kernel_rfl) (by kernel_rfl) (by kernel_rfl) (by decide) (fun _ _ _ h => h) (Or.inr ⟨by rfl, rfl⟩) TS ?_
  try simp only [Act.put, sa1, sa2, sa3]
  refine wpAnyL_at (i := 7) (v := undef) (some 110) rfl rfl (by kernel_rfl) (by kernel_rfl) (by kernel_rfl) (by kernel_rfl) (by decide) (fun _ _ _ h => h) (Or.inr ⟨by rfl, rfl⟩) TS ?_
  try simp only [Act.put, sa1, sa2, sa3]
  refine wpAnyL_at (i := 8) (v := .bool false) (some 111) rfl rfl (by kernel_rfl) (by kernel_rfl) (by kernel_rfl) (by kernel_rfl) (by decide) (fun _ _ _ h => h) (Or.inl ⟨by rfl, ?_⟩) TS ?_
  · intro w hSw
    go_simp
  try simp only [Act.put, sa1, sa2, sa3]
  refine wpAnyL_at (i := 9) (v := .bool false) (some 112) rfl rfl (by kernel_rfl) (by kernel_rfl) (by kernel_rfl) (by kernel_rfl) (by decide) (fun _ _ _ h => h) (Or.inl ⟨by rfl, ?_⟩) TS ?_
  · intro w hSw
    go_simp
  try simp only [Act.put, sa1, sa2, sa3]
  refine wpAnyL_at (i := 10) (v := undef) (some 113) rfl rfl (by kernel_rfl) (by kernel_rfl) (by kernel_rfl) (by kernel_rfl) (by decide) (fun _ _ _ h => h) (Or.inr ⟨by rfl, rfl⟩) TS ?_
  try simp only [Act.put, sa1, sa2, sa3]
  refine wpAnyL_at (i := 11) (v := undef) (some 114) rfl rfl (by kernel_rfl) (by kernel_rfl) (by kernel_rfl) (by kernel_rfl) (by decide) (fun _ _ _ h => h) (Or.inr ⟨by rfl, rfl⟩) TS ?_
  try simp only [Act.put, sa1, sa2, sa3]
  refine wpAnyL_at (i := 12) (v := undef) (some 115) rfl rfl (by kernel_rfl) (by kernel_rfl) (by kernel_rfl) (by kernel_rfl) (by decide) (fun _ _ _ h => h) (Or.inr ⟨by rfl, rfl⟩) TS ?_
  try simp only [Act.put, sa1, sa2, sa3]
  refine wpAnyL_at (i := 13) (v := undef) (some 116) rfl rfl (by kernel_rfl) (by kernel_rfl) (by kernel_rfl) (by kernel_rfl) (by decide) (fun _ _ _ h => h) (Or.inr ⟨by rfl, rfl⟩) TS ?_
  try simp only [Act.put, sa1, sa2, sa3]
  refine wpAnyL_at (i := 14) (v := undef) (some 117) rfl rfl (by kernel_rfl) (by kernel_rfl) (by kernel_rfl) (by kernel_rfl) (by decide) (fun _ _ _ h => h) (Or.inr ⟨by rfl, rfl⟩) TS ?_
  try simp only [Act.put, sa1, sa2, sa3]
  refine wpAnyL_at (i := 15) (v := undef) (some 118) rfl rfl (by kernel_rfl) (by kernel_rfl) (by kernel_rfl) (by kernel_rfl) (by decide) (fun _ _ _ h => h) (Or.inr ⟨by rfl, rfl⟩) TS ?_
  try simp only [Act.put, sa1, sa2, sa3]
  refine wpAnyL_at (i := 16) (v := .bool false) (some 119) rfl rfl (by kernel_rfl) (by kernel_rfl) (by kernel_rfl) (by kernel_rfl) (by decide) (fun _ _ _ h => h) (Or.inl ⟨by rfl, ?_⟩) TS ?_
  · intro w hSw
    go_simp
  try simp only [Act.put, sa1, sa2, sa3]
  refine wpAnyL_one (i := 17) (by kernel_rfl) rfl (fun K hK => ?_)
  go_simp
  refine hK.out _ _ (fun h => absurd rfl h) ?_
  clear hK K
  try simp only [Act.put, sa1, sa2, sa3]
  refine wpAnyL_done (by kernel_rfl) ?_ _
  refine NoPanic.normal ?_
  go_wp2_with fail
  go_ret
  exact ⟨rfl, Gr.drew _ _⟩
 | some U =>
  obtain ⟨g', o', rfl, hg', hTA⟩ := hrow.last hU
  obtain ⟨k', s', n', b', l', rfl, y0, hgl'⟩ := hTA.kind
  have hp : 0 < l.length := by cases l with
   | nil => cases hU
   | cons a r => simp
  have hrd := Lib.hid hrow.dropLast
  have hdl := List.length_dropLast (xs := l)
  rw [show decide (0 < l.length) = true by simpa using hp]
  show Calls Tryz.prog 68 #[ptr g o] W fun e w' => e = .returned (.bool (true && l.dropLast.all (isK 3) && (k' == 16))) ∧ Gr (fun _ => False) W w'
  have hdd : l.dropLast.length ≤ 4611686018427387904 := by omega
  generalize l.dropLast = d at hrd hdl hdd ⊢
  obtain ⟨m, hm⟩ : ∃ m, l.length - 1 = m := ⟨_, rfl⟩
  have hmI : (l.length : Int) - 1 = (m : Int) := by omega
  rw [hm] at y0 hdl
  have hmc : (m : Int) ≤ (lc : Int) := by omega
  have hmc2 : m ≤ lc := by omega
  have hlt : (m : Int) < (l.length : Int) := by omega
  have hge : decide ((0 : Int) ≤ (m : Int)) = true := by simp
  clear hrow hT x1 x2 x3 hU hTA hm hp
  go_enter Tryz.func68, Tryz.ntmps68
  go_wp2_with fail
  refine wp_region_L (T := fun w => w.cell? ⟨g', o' + m * 5, none⟩ = some (.int .i64 k')) (L := 17) (by kernel_rfl) ?_
  have Gw : Gr (fun _ => False) W W.drew := Gr.drew _ _
  have TS := cell_gr y0 Gw (fun e => e)
  generalize W.drew = w at Gw TS ⊢
  refine wpAnyL_at (i := 0) (v := .int .i64 (m : Int)) (some 103) rfl rfl (by kernel_rfl) (by kernel_rfl) (by kernel_rfl) (by kernel_rfl) (by decide) (fun _ _ _ h => h) (Or.inl ⟨by rfl, ?_⟩) TS ?_
  · intro w hSw
    go_simp
  try simp only [Act.put, sa1, sa2, sa3]
  refine wpAnyL_at (i := 1) (v := .bool true) (some 104) rfl rfl (by kernel_rfl) (by kernel_rfl) (by kernel_rfl) (by kernel_rfl) (by decide) (fun _ _ _ h => h) (Or.inl ⟨by rfl, ?_⟩) TS ?_
  · intro w hSw
    go_simp
  try simp only [Act.put, sa1, sa2, sa3]
  refine wpAnyL_at (i := 2) (v := .bool true) (some 105) rfl rfl (by kernel_rfl) (by kernel_rfl) (by kernel_rfl) (by kernel_rfl) (by decide) (fun _ _ _ h => h) (Or.inl ⟨by rfl, ?_⟩) TS ?_
  · intro w hSw
    go_simp
  try simp only [Act.put, sa1, sa2, sa3]
  refine wpAnyL_at (i := 3) (v := .slice (some ⟨g', o', none⟩) l.length lc) (some 106) rfl rfl (by kernel_rfl) (by kernel_rfl) (by kernel_rfl) (by kernel_rfl) (by decide) (fun _ _ _ h => h) (Or.inl ⟨by rfl, ?_⟩) TS ?_
  · intro w hSw
    go_simp
  try simp only [Act.put, sa1, sa2, sa3]
  refine wpAnyL_at (i := 4) (v := .int .i64 (m : Int)) (some 107) rfl rfl (by kernel_rfl) (by kernel_rfl) (by kernel_rfl) (by kernel_rfl) (by decide) (fun _ _ _ h => h) (Or.inl ⟨by rfl, ?_⟩) TS ?_
  · intro w hSw
    go_simp
  try simp only [Act.put, sa1, sa2, sa3]
  refine wpAnyL_at (i := 5) (v := .slice (some ⟨g', o', none⟩) m lc) (some 108) rfl rfl (by kernel_rfl) (by kernel_rfl) (by kernel_rfl) (by kernel_rfl) (by decide) (fun _ _ _ h => h) (Or.inl ⟨by rfl, ?_⟩) TS ?_
  · intro w hSw
    go_simp
  try simp only [Act.put, sa1, sa2, sa3]
  refine wpAnyL_one (i := 6) (by kernel_rfl) rfl (fun K hK => ?_)
  go_simp
  refine (mkis_c w 3).mono ?_
  rintro e w2 ⟨rfl, hc2, g2⟩
  have G2 := Gw.trans g2
  have hev := every_c (isq_c N w.heap.size 3 (Nat.le_trans hN Gw.size)) d hdd (fun _ _ => trivial) w2 (some ⟨g', o', none⟩) lc hc2 (hrd.out.g0 G2) (Nat.le_trans hN G2.size)
  rw [hdl] at hev
  have TS := cell_gr TS g2 (fun e => e)
  refine hK.out _ _ (fun _ => TS) ?_
  clear hK K
  try simp only [Act.put, sa1, sa2, sa3]
  refine wpAnyL_one (i := 7) (by kernel_rfl) rfl (fun K hK => ?_)
  go_simp
  refine hev.mono ?_
  rintro e w3 ⟨rfl, g3⟩
  have G3 := G2.trans g3
  have TS := cell_gr TS g3 (fun e => e)
  cases q : d.all (isK 3) with
  | false =>
   refine hK.out _ _ (fun _ => TS) ?_
   clear hK K
   try simp only [Act.put, sa1, sa2, sa3]
   refine wpAnyL_at (i := 8) (v := .bool false) (some 111) rfl rfl (by kernel_rfl) (by kernel_rfl) (by kernel_rfl) (by kernel_rfl) (by decide) (fun _ _ _ h => h) (Or.inl ⟨by rfl, ?_⟩) TS ?_
   · intro w hSw
     go_simp
   try simp only [Act.put, sa1, sa2, sa3]
   refine wpAnyL_at (i := 9) (v := .bool false) (some 112) rfl rfl (by kernel_rfl) (by kernel_rfl) (by kernel_rfl) (by kernel_rfl) (by decide) (fun _ _ _ h => h) (Or.inl ⟨by rfl, ?_⟩) TS ?_
   · intro w hSw
     go_simp
   try simp only [Act.put, sa1, sa2, sa3]
   refine wpAnyL_at (i := 10) (v := undef) (some 113) rfl rfl (by kernel_rfl) (by kernel_rfl) (by kernel_rfl) (by kernel_rfl) (by decide) (fun _ _ _ h => h) (Or.inr ⟨by rfl, rfl⟩) TS ?_
   try simp only [Act.put, sa1, sa2, sa3]
   refine wpAnyL_at (i := 11) (v := undef) (some 114) rfl rfl (by kernel_rfl) (by kernel_rfl) (by kernel_rfl) (by kernel_rfl) (by decide) (fun _ _ _ h => h) (Or.inr ⟨by rfl, rfl⟩) TS ?_
   try simp only [Act.put, sa1, sa2, sa3]
   refine wpAnyL_at (i := 12) (v := undef) (some 115) rfl rfl (by kernel_rfl) (by kernel_rfl) (by kernel_rfl) (by kernel_rfl) (by decide) (fun _ _ _ h => h) (Or.inr ⟨by rfl, rfl⟩) TS ?_
   try simp only [Act.put, sa1, sa2, sa3]
   refine wpAnyL_at (i := 13) (v := undef) (some 116) rfl rfl (by kernel_rfl) (by kernel_rfl) (by kernel_rfl) (by kernel_rfl) (by decide) (fun _ _ _ h => h) (Or.inr ⟨by rfl, rfl⟩) TS ?_
   try simp only [Act.put, sa1, sa2, sa3]
   refine wpAnyL_at (i := 14) (v := undef) (some 117) rfl rfl (by kernel_rfl) (by kernel_rfl) (by kernel_rfl) (by kernel_rfl) (by decide) (fun _ _ _ h => h) (Or.inr ⟨by rfl, rfl⟩) TS ?_
   try simp only [Act.put, sa1, sa2, sa3]
   refine wpAnyL_at (i := 15) (v := undef) (some 118) rfl rfl (by kernel_rfl) (by kernel_rfl) (by kernel_rfl) (by kernel_rfl) (by decide) (fun _ _ _ h => h) (Or.inr ⟨by rfl, rfl⟩) TS ?_
   try simp only [Act.put, sa1, sa2, sa3]
   refine wpAnyL_at (i := 16) (v := .bool false) (some 119) rfl rfl (by kernel_rfl) (by kernel_rfl) (by kernel_rfl) (by kernel_rfl) (by decide) (fun _ _ _ h => h) (Or.inl ⟨by rfl, ?_⟩) TS ?_
   · intro w hSw
     go_simp
   try simp only [Act.put, sa1, sa2, sa3]
   refine wpAnyL_one (i := 17) (by kernel_rfl) rfl (fun K hK => ?_)
   go_simp
   refine hK.out _ _ (fun h => absurd rfl h) ?_
   clear hK K
   try simp only [Act.put, sa1, sa2, sa3]
   refine wpAnyL_done (by kernel_rfl) ?_ _
   refine NoPanic.normal ?_
   go_wp2_with fail
   go_ret
   exact ⟨by rw [q]; rfl, G3⟩
  | true =>
   refine hK.out _ _ (fun _ => TS) ?_
   clear hK K
   try simp only [Act.put, sa1, sa2, sa3]
   refine wpAnyL_at (i := 8) (v := .bool true) (some 111) rfl rfl (by kernel_rfl) (by kernel_rfl) (by kernel_rfl) (by kernel_rfl) (by decide) (fun _ _ _ h => h) (Or.inl ⟨by rfl, ?_⟩) TS ?_
   · intro w hSw
     go_simp
   try simp only [Act.put, sa1, sa2, sa3]
   refine wpAnyL_at (i := 9) (v := .bool true) (some 112) rfl rfl (by kernel_rfl) (by kernel_rfl) (by kernel_rfl) (by kernel_rfl) (by decide) (fun _ _ _ h => h) (Or.inl ⟨by rfl, ?_⟩) TS ?_
   · intro w hSw
     go_simp
   try simp only [Act.put, sa1, sa2, sa3]
   refine wpAnyL_at (i := 10) (v := .slice (some ⟨g', o', none⟩) l.length lc) (some 113) rfl rfl (by kernel_rfl) (by kernel_rfl) (by kernel_rfl) (by kernel_rfl) (by decide) (fun _ _ _ h => h) (Or.inl ⟨by rfl, ?_⟩) TS ?_
   · intro w hSw
     go_simp
   try simp only [Act.put, sa1, sa2, sa3]
   refine wpAnyL_at (i := 11) (v := .int .i64 (m : Int)) (some 114) rfl rfl (by kernel_rfl) (by kernel_rfl) (by kernel_rfl) (by kernel_rfl) (by decide) (fun _ _ _ h => h) (Or.inl ⟨by rfl, ?_⟩) TS ?_
   · intro w hSw
     go_simp
   try simp only [Act.put, sa1, sa2, sa3]
   refine wpAnyL_at (i := 12) (v := ptr g' (o' + m * 5)) (some 115) rfl rfl (by kernel_rfl) (by kernel_rfl) (by kernel_rfl) (by kernel_rfl) (by decide) (fun _ _ _ h => h) (Or.inl ⟨by rfl, ?_⟩) TS ?_
   · intro w hSw
     go_simp
   try simp only [Act.put, sa1, sa2, sa3]
   refine wpAnyL_at (i := 13) (v := ptr g' (o' + m * 5)) (some 116) rfl rfl (by kernel_rfl) (by kernel_rfl) (by kernel_rfl) (by kernel_rfl) (by decide) (fun _ _ _ h => h) (Or.inl ⟨by rfl, ?_⟩) TS ?_
   · intro w hSw
     go_simp
   try simp only [Act.put, sa1, sa2, sa3]
   refine wpAnyL_at (i := 14) (v := .int .i64 k') (some 117) rfl rfl (by kernel_rfl) (by kernel_rfl) (by kernel_rfl) (by kernel_rfl) (by decide) (fun _ _ _ h => h) (Or.inl ⟨by rfl, ?_⟩) TS ?_
   · intro w hSw
     go_simp
   try simp only [Act.put, sa1, sa2, sa3]
   refine wpAnyL_at (i := 15) (v := .bool (k' == 16)) (some 118) rfl rfl (by kernel_rfl) (by kernel_rfl) (by kernel_rfl) (by kernel_rfl) (by decide) (fun _ _ _ h => h) (Or.inl ⟨by rfl, ?_⟩) TS ?_
   · intro w hSw
     go_simp
   try simp only [Act.put, sa1, sa2, sa3]
   refine wpAnyL_at (i := 16) (v := .bool (k' == 16)) (some 119) rfl rfl (by kernel_rfl) (by kernel_rfl) (by kernel_rfl) (by kernel_rfl) (by decide) (fun _ _ _ h => h) (Or.inl ⟨by rfl, ?_⟩) TS ?_
   · intro w hSw
     go_simp
   try simp only [Act.put, sa1, sa2, sa3]
   refine wpAnyL_one (i := 17) (by kernel_rfl) rfl (fun K hK => ?_)
   go_simp
   refine hK.out _ _ (fun h => absurd rfl h) ?_
   clear hK K
   try simp only [Act.put, sa1, sa2, sa3]
   refine wpAnyL_done (by kernel_rfl) ?_ _
   refine NoPanic.normal ?_
   go_wp2_with fail
   go_ret
   exact ⟨by rw [q]; rfl, G3⟩
theorem parts_c (N : Nat) (T : Tr) (hs : szT T) : PartsOk N T := by
 obtain ⟨k, s, n, b, l⟩ := T
 have hl : l.length ≤ 4611686018427387904 := hs.2
 by_cases hk : 1 ≤ k ∧ k ≤ 18
 ·
  have : k = 1 ∨ k = 2 ∨ k = 3 ∨ k = 4 ∨ k = 5 ∨ k = 6 ∨ k = 7 ∨ k = 8 ∨ k = 9 ∨ k = 10 ∨ k = 11 ∨ k = 12 ∨ k = 13 ∨ k = 14 ∨ k = 15 ∨ k = 16 ∨ k = 17 ∨ k = 18 := by omega
  rcases this with rfl | rfl | rfl | rfl | rfl | rfl | rfl | rfl | rfl | rfl | rfl | rfl | rfl | rfl | rfl | rfl | rfl | rfl
  · exact parts1 N s n b l hl
  · exact parts2 N s n b l hl
  · exact parts3 N s n b l hl
  · exact parts4 N s n b l hl
  · exact parts5 N s n b l hl
  · exact parts6 N s n b l hl
  · exact parts7 N s n b l hl
  · exact parts8 N s n b l hl
  · exact parts9 N s n b l hl
  · exact parts10 N s n b l hl
  · exact parts11 N s n b l hl
  · exact parts12 N s n b l hl
  · exact parts13 N s n b l hl
  · exact parts14 N s n b l hl
  · exact parts15 N s n b l hl
  · exact parts16 N s n b l hl
  · exact parts17 N s n b l hl
  · exact parts18 N s n b l hl
 · exact partsE N k s n b l hk
end Go.Proofs.YtjedbfbolifjjaaGreatDoor

namespace Go.Proofs.YtjedbfbolifjjaaGreatDoor
open Go.RowKit Go.Maps
variable {W W' : World}
def valV : Tr → Bool
 | .mk k s n b _ =>
  if k = 1 then decide (0 ≤ n) && decide (n ≤ 4611686018427387903)
  else if k = 2 ∨ k = 11 ∨ k = 17 then isName s && !wrd s
  else if k = 3 then (s.toList == [95]) || isVarN s
  else if k = 4 then decide ((b.length : Int) ≤ 4096)
  else if k = 8 then binS s
  else true
def ValOk (N : Nat) (T : Tr) : Prop := ∀ (W : World) (g o : Nat), TAtG N W g o T → g < N → Calls Tryz.prog 69 #[ptr g o] W fun e w' => e = .returned (.bool (valV T)) ∧ Gr (fun _ => False) W w'
set_option maxRecDepth 100000 in
set_option maxHeartbeats 1600000 in
theorem val1 (N : Nat) (s : ByteArray) (n : Int) (b : List Int) (l : List Tr) : ValOk N (.mk 1 s n b l) := by
 intro W g o hT hg
 obtain ⟨ba, bc, la, lc, ⟨x0, x1, x2, x3, x4⟩, hrow, hgl⟩ := hT.parts
 clear hrow hT
 show Calls Tryz.prog 69 #[ptr g o] W fun e w' => e = .returned (.bool (decide (0 ≤ n) && decide (n ≤ 4611686018427387903))) ∧ Gr (fun _ => False) W w'
 cases d1 : decide (0 ≤ n) <;> cases d2 : decide (n ≤ 4611686018427387903)
 all_goals
  go_enter Tryz.func69, Tryz.ntmps69
  go_wp2_with fail
  go_ret
  exact ⟨rfl, Gr.refl _ _⟩
set_option maxRecDepth 100000 in
set_option maxHeartbeats 1600000 in
theorem val2 (N : Nat) (s : ByteArray) (n : Int) (b : List Int) (l : List Tr) : ValOk N (.mk 2 s n b l) := by
 intro W g o hT hg
 obtain ⟨ba, bc, la, lc, ⟨x0, x1, x2, x3, x4⟩, hrow, hgl⟩ := hT.parts
 clear hrow hT
 show Calls Tryz.prog 69 #[ptr g o] W fun e w' => e = .returned (.bool (isName s && !wrd s)) ∧ Gr (fun _ => False) W w'
 have h1 := aright_c s W
 have h2 := word_c s W
 cases q1 : isName s with
 | false =>
  rw [q1] at h1
  go_enter Tryz.func69, Tryz.ntmps69
  go_wp2_with fail
  refine h1.mono ?_
  rintro e w1 ⟨rfl, rfl⟩
  go_wp2_with fail
  go_ret
  exact ⟨rfl, Gr.refl _ _⟩
 | true =>
  rw [q1] at h1
  cases q2 : wrd s
  all_goals
   rw [q2] at h2
   go_enter Tryz.func69, Tryz.ntmps69
   go_wp2_with fail
   refine h1.mono ?_
   rintro e w1 ⟨rfl, rfl⟩
   go_wp2_with fail
   refine h2.mono ?_
   rintro e w1 ⟨rfl, rfl⟩
   go_wp2_with fail
   go_ret
   exact ⟨rfl, Gr.refl _ _⟩
set_option maxRecDepth 100000 in
set_option maxHeartbeats 1600000 in
theorem val11 (N : Nat) (s : ByteArray) (n : Int) (b : List Int) (l : List Tr) : ValOk N (.mk 11 s n b l) := by
 intro W g o hT hg
 obtain ⟨ba, bc, la, lc, ⟨x0, x1, x2, x3, x4⟩, hrow, hgl⟩ := hT.parts
 clear hrow hT
 show Calls Tryz.prog 69 #[ptr g o] W fun e w' => e = .returned (.bool (isName s && !wrd s)) ∧ Gr (fun _ => False) W w'
 have h1 := aright_c s W
 have h2 := word_c s W
 cases q1 : isName s with
 | false =>
  rw [q1] at h1
  go_enter Tryz.func69, Tryz.ntmps69
  go_wp2_with fail
  refine h1.mono ?_
  rintro e w1 ⟨rfl, rfl⟩
  go_wp2_with fail
  go_ret
  exact ⟨rfl, Gr.refl _ _⟩
 | true =>
  rw [q1] at h1
  cases q2 : wrd s
  all_goals
   rw [q2] at h2
   go_enter Tryz.func69, Tryz.ntmps69
   go_wp2_with fail
   refine h1.mono ?_
   rintro e w1 ⟨rfl, rfl⟩
   go_wp2_with fail
   refine h2.mono ?_
   rintro e w1 ⟨rfl, rfl⟩
   go_wp2_with fail
   go_ret
   exact ⟨rfl, Gr.refl _ _⟩
set_option maxRecDepth 100000 in
set_option maxHeartbeats 1600000 in
theorem val17 (N : Nat) (s : ByteArray) (n : Int) (b : List Int) (l : List Tr) : ValOk N (.mk 17 s n b l) := by
 intro W g o hT hg
 obtain ⟨ba, bc, la, lc, ⟨x0, x1, x2, x3, x4⟩, hrow, hgl⟩ := hT.parts
 clear hrow hT
 show Calls Tryz.prog 69 #[ptr g o] W fun e w' => e = .returned (.bool (isName s && !wrd s)) ∧ Gr (fun _ => False) W w'
 have h1 := aright_c s W
 have h2 := word_c s W
 cases q1 : isName s with
 | false =>
  rw [q1] at h1
  go_enter Tryz.func69, Tryz.ntmps69
  go_wp2_with fail
  refine h1.mono ?_
  rintro e w1 ⟨rfl, rfl⟩
  go_wp2_with fail
  go_ret
  exact ⟨rfl, Gr.refl _ _⟩
 | true =>
  rw [q1] at h1
  cases q2 : wrd s
  all_goals
   rw [q2] at h2
   go_enter Tryz.func69, Tryz.ntmps69
   go_wp2_with fail
   refine h1.mono ?_
   rintro e w1 ⟨rfl, rfl⟩
   go_wp2_with fail
   refine h2.mono ?_
   rintro e w1 ⟨rfl, rfl⟩
   go_wp2_with fail
   go_ret
   exact ⟨rfl, Gr.refl _ _⟩
set_option maxRecDepth 100000 in
set_option maxHeartbeats 1600000 in
theorem val3 (N : Nat) (s : ByteArray) (n : Int) (b : List Int) (l : List Tr) : ValOk N (.mk 3 s n b l) := by
 intro W g o hT hg
 obtain ⟨ba, bc, la, lc, ⟨x0, x1, x2, x3, x4⟩, hrow, hgl⟩ := hT.parts
 clear hrow hT
 show Calls Tryz.prog 69 #[ptr g o] W fun e w' => e = .returned (.bool ((s.toList == [95]) || isVarN s)) ∧ Gr (fun _ => False) W w'
 have h1 := mname_c s W
 cases q1 : (s.toList == [95]) with
 | true =>
  go_enter Tryz.func69, Tryz.ntmps69
  go_wp2_with fail
  go_ret
  exact ⟨rfl, Gr.refl _ _⟩
 | false =>
  go_enter Tryz.func69, Tryz.ntmps69
  go_wp2_with fail
  refine h1.mono ?_
  rintro e w1 ⟨rfl, rfl⟩
  go_wp2_with fail
  go_ret
  exact ⟨by rw [Bool.false_or]; rfl, Gr.refl _ _⟩
set_option maxRecDepth 100000 in
set_option maxHeartbeats 1600000 in
theorem val4 (N : Nat) (s : ByteArray) (n : Int) (b : List Int) (l : List Tr) : ValOk N (.mk 4 s n b l) := by
 intro W g o hT hg
 obtain ⟨ba, bc, la, lc, ⟨x0, x1, x2, x3, x4⟩, hrow, hgl⟩ := hT.parts
 clear hrow hT
 show Calls Tryz.prog 69 #[ptr g o] W fun e w' => e = .returned (.bool (decide ((b.length : Int) ≤ 4096))) ∧ Gr (fun _ => False) W w'
 go_enter Tryz.func69, Tryz.ntmps69
 go_wp2_with fail
 go_ret
 exact ⟨rfl, Gr.refl _ _⟩
set_option maxRecDepth 100000 in
set_option maxHeartbeats 1600000 in
theorem val8 (N : Nat) (s : ByteArray) (n : Int) (b : List Int) (l : List Tr) : ValOk N (.mk 8 s n b l) := by
 intro W g o hT hg
 obtain ⟨ba, bc, la, lc, ⟨x0, x1, x2, x3, x4⟩, hrow, hgl⟩ := hT.parts
 clear hrow hT
 show Calls Tryz.prog 69 #[ptr g o] W fun e w' => e = .returned (.bool (binS s)) ∧ Gr (fun _ => False) W w'
 have h1 := joins_c s W
 go_enter Tryz.func69, Tryz.ntmps69
 go_wp2_with fail
 refine h1.mono ?_
 rintro e w1 ⟨rfl, rfl⟩
 go_wp2_with fail
 go_ret
 exact ⟨rfl, Gr.refl _ _⟩
set_option maxRecDepth 100000 in
set_option maxHeartbeats 1600000 in
theorem valE (N : Nat) (k : Int) (s : ByteArray) (n : Int) (b : List Int) (l : List Tr) (h1 : k ≠ 1) (h2 : k ≠ 2) (h3 : k ≠ 3) (h4 : k ≠ 4) (h8 : k ≠ 8) (h11 : k ≠ 11) (h17 : k ≠ 17) : ValOk N (.mk k s n b l) := by
 intro W g o hT hg
 obtain ⟨ba, bc, la, lc, ⟨x0, x1, x2, x3, x4⟩, hrow, hgl⟩ := hT.parts
 clear hrow hT
 have e : valV (.mk k s n b l) = true := by
  simp only [valV]
  rw [if_neg h1, if_neg (by omega), if_neg h3, if_neg h4, if_neg h8]
 rw [e]
 have q1 : (k == 1) = false := by simpa using h1
 have q2 : (k == 2) = false := by simpa using h2
 have q3 : (k == 3) = false := by simpa using h3
 have q4 : (k == 4) = false := by simpa using h4
 have q8 : (k == 8) = false := by simpa using h8
 have q11 : (k == 11) = false := by simpa using h11
 have q17 : (k == 17) = false := by simpa using h17
 clear e h1 h2 h3 h4 h8 h11 h17
 go_enter Tryz.func69, Tryz.ntmps69
 go_wp2_with fail
 go_ret
 exact ⟨rfl, Gr.refl _ _⟩
theorem val_c (N : Nat) (T : Tr) : ValOk N T := by
 obtain ⟨k, s, n, b, l⟩ := T
 by_cases h1 : k = 1
 · subst h1; exact val1 N s n b l
 by_cases h2 : k = 2
 · subst h2; exact val2 N s n b l
 by_cases h3 : k = 3
 · subst h3; exact val3 N s n b l
 by_cases h4 : k = 4
 · subst h4; exact val4 N s n b l
 by_cases h8 : k = 8
 · subst h8; exact val8 N s n b l
 by_cases h11 : k = 11
 · subst h11; exact val11 N s n b l
 by_cases h17 : k = 17
 · subst h17; exact val17 N s n b l
 exact valE N k s n b l h1 h2 h3 h4 h8 h11 h17
/-- Is a part none that chapter 16 has? -/
def misV (T : Tr) : Bool := !bareV T || !partsV T || !valV T
set_option maxRecDepth 100000 in
set_option maxHeartbeats 1600000 in
theorem mis_c (N : Nat) : So N 46 #[] (fun _ => True) szT misV := by
 refine ⟨ent_of Tryz.func46 (by kernel_rfl) rfl, fun _ _ _ _ => trivial, fun W g o T _ hs hT hg hN => ?_⟩
 have hpa := Lib.hid (fun w (gw : Gr (fun _ => False) W w) => parts_c N T hs w g o (hT.g0 gw hg) hg (Nat.le_trans hN gw.size))
 have hva := Lib.hid (fun w (gw : Gr (fun _ => False) W w) => val_c N T w g o (hT.g0 gw hg) hg)
 obtain ⟨k, s, n, b, l⟩ := T
 obtain ⟨ba, bc, la, lc, ⟨x0, x1, x2, x3, x4⟩, hrow, hgl⟩ := hT.parts
 have hba := bare_c W k s n b l ba bc la lc
 show Calls Tryz.prog 46 #[ptr g o] W fun e w' => e = .returned (.bool (!bareV (.mk k s n b l) || !partsV (.mk k s n b l) || !valV (.mk k s n b l))) ∧ Gr (fun _ => False) W w'
 generalize bareV (.mk k s n b l) = B1 at hba ⊢
 generalize partsV (.mk k s n b l) = B2 at hpa ⊢
 generalize valV (.mk k s n b l) = B3 at hva ⊢
 replace hba := Lib.hid hba
 clear hrow hT hs
 cases B1 with
 | false =>
  go_enter Tryz.func46, Tryz.ntmps46
  go_wp2_with fail
  refine hba.out.mono ?_
  rintro e w1 ⟨rfl, g1⟩
  go_wp2_with fail
  go_ret
  exact ⟨rfl, g1⟩
 | true =>
  cases B2 with
  | false =>
   go_enter Tryz.func46, Tryz.ntmps46
   go_wp2_with fail
   refine hba.out.mono ?_
   rintro e w1 ⟨rfl, g1⟩
   go_wp2_with fail
   refine (hpa.out w1 g1).mono ?_
   rintro e w2 ⟨rfl, g2⟩
   go_wp2_with fail
   go_ret
   exact ⟨rfl, g1.trans g2⟩
  | true =>
   cases B3
   all_goals
    go_enter Tryz.func46, Tryz.ntmps46
    go_wp2_with fail
    refine hba.out.mono ?_
    rintro e w1 ⟨rfl, g1⟩
    go_wp2_with fail
    refine (hpa.out w1 g1).mono ?_
    rintro e w2 ⟨rfl, g2⟩
    go_wp2_with fail
    refine (hva.out w2 (g1.trans g2)).mono ?_
    rintro e w3 ⟨rfl, g3⟩
    go_wp2_with fail
    go_ret
    exact ⟨rfl, (g1.trans g2).trans g3⟩
end Go.Proofs.YtjedbfbolifjjaaGreatDoor
