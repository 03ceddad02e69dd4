/-
  The reference's Formed: joins.
  The reference's Formed: joins.
-/
import Derived.Test.YtjedbfbolifjjaaGreatDoorMN
import Derived.Test.YtjedbfbolifjjaaGreatDoorMP
set_option linter.unusedVariables false
set_option linter.unusedSimpArgs false
namespace Go.Proofs.YtjedbfbolifjjaaGreatDoor
open Go.RowKit Go.Maps
variable {W W' : World}
set_option maxRecDepth 100000 in
set_option maxHeartbeats 3200000 in
theorem fm8_5 (s : ByteArray) (q0 : (s.toList == [43]) = false) (q1 : (s.toList == [45]) = false) (q2 : (s.toList == [42]) = false) (q3 : (s.toList == [47]) = false) (q4 : (s.toList == [114, 101, 109]) = false) (q5 : (s.toList == [61, 61]) = true) (b : List Int) (hb0 : ¬ 0 < b.length) (l : List Tr) (hl : l.length ≤ 4611686018427387904) : FmIs 8 s 0 b l (((l.length : Int) == 2) && smV 1 13 (0) (2) l) := by
 intro N W ba bc la lc hrow hN
 have gA := Gr.alloc W (.cells #[.int .i64 8, .string s, .int .i64 0, .slice ba b.length bc, .slice la l.length lc] 25) (fun _ => False)
 obtain ⟨⟨m0, m1, m2, m3, m4⟩, _⟩ := five_cells (heap_alloc_new W (.cells #[.int .i64 8, .string s, .int .i64 0, .slice ba b.length bc, .slice la l.length lc] 25))
 have hlI : (l.length : Int) ≤ 4611686018427387904 := by omega
 have hl0 : (0 : Int) ≤ (l.length : Int) := by omega
 have gS : ¬ s.toList = [] := fun e => by rw [e] at q5; exact absurd q5 (by decide)
 have gS2 : s.toList.isEmpty = false := by simpa using gS
 have hc1 : Hid ((l.length : Int) = 2 → ∀ w, Gr (fun _ => False) W w → Calls Tryz.prog 60 #[trv 8 s 0 (.slice ba b.length bc) (.slice la l.length lc), .int .i64 0, .int .i64 2, .int .i64 1, .int .i64 13] w fun e w' => e = .returned (.bool (smV 1 13 (0) (2) l)) ∧ Gr (fun _ => False) w w') := fun hq w gw => by
  have h1 : 0 ≤ 2 := by omega
  have h2 : 2 ≤ l.length := by omega
  have := rsome_c N w 8 s 0 _ ⟨ba, b.length, bc, rfl⟩ la lc l (0) (2) 1 13 (hrow.g0 gw) (Nat.le_trans hN gw.size) h1 h2 hl
  exact this
 have hbN : (0 : Int) ≤ (b.length : Int) := by omega
 generalize smV 1 13 (0) (2) l = r1 at hc1 ⊢
 clear hrow hl
 generalize b.length = bl at *
 generalize l.length = ll at *
 by_cases qL : (ll : Int) = 2
 case neg =>
  have e9 : (((ll : Int) == 2) && r1) = false := by simp [qL]
  rw [e9]
  clear hc1 e9
  go_enter Tryz.func27, Tryz.ntmps27
  go_wp2_with fail
  go_ret
  exact ⟨rfl, gA⟩
 have e9 : (((ll : Int) == 2) && r1) = r1 := by simp [qL]
 rw [e9]
 clear e9
 go_enter Tryz.func27, Tryz.ntmps27
 go_wp2_with fail
 refine (hc1.out (by first | trivial | assumption) _ (gA)).mono ?_
 rintro e w1 ⟨rfl, g1⟩
 have G1 := (gA).trans g1
 have x0_1 := cell_gr m0 g1 (fun e => e)
 have x1_1 := cell_gr m1 g1 (fun e => e)
 have x2_1 := cell_gr m2 g1 (fun e => e)
 have x3_1 := cell_gr m3 g1 (fun e => e)
 have x4_1 := cell_gr m4 g1 (fun e => e)
 have hz1 : W.heap.size < w1.heap.size := World.block_lt_of_cell? _ _ x0_1
 go_wp2_with fail
 go_ret
 exact ⟨rfl, G1⟩
set_option maxRecDepth 100000 in
set_option maxHeartbeats 3200000 in
theorem fm8_6 (s : ByteArray) (q0 : (s.toList == [43]) = false) (q1 : (s.toList == [45]) = false) (q2 : (s.toList == [42]) = false) (q3 : (s.toList == [47]) = false) (q4 : (s.toList == [114, 101, 109]) = false) (q5 : (s.toList == [61, 61]) = false) (q6 : (s.toList == [47, 61]) = true) (b : List Int) (hb0 : ¬ 0 < b.length) (l : List Tr) (hl : l.length ≤ 4611686018427387904) : FmIs 8 s 0 b l (((l.length : Int) == 2) && smV 1 13 (0) (2) l) := by
 intro N W ba bc la lc hrow hN
 have gA := Gr.alloc W (.cells #[.int .i64 8, .string s, .int .i64 0, .slice ba b.length bc, .slice la l.length lc] 25) (fun _ => False)
 obtain ⟨⟨m0, m1, m2, m3, m4⟩, _⟩ := five_cells (heap_alloc_new W (.cells #[.int .i64 8, .string s, .int .i64 0, .slice ba b.length bc, .slice la l.length lc] 25))
 have hlI : (l.length : Int) ≤ 4611686018427387904 := by omega
 have hl0 : (0 : Int) ≤ (l.length : Int) := by omega
 have gS : ¬ s.toList = [] := fun e => by rw [e] at q6; exact absurd q6 (by decide)
 have gS2 : s.toList.isEmpty = false := by simpa using gS
 have hc1 : Hid ((l.length : Int) = 2 → ∀ w, Gr (fun _ => False) W w → Calls Tryz.prog 60 #[trv 8 s 0 (.slice ba b.length bc) (.slice la l.length lc), .int .i64 0, .int .i64 2, .int .i64 1, .int .i64 13] w fun e w' => e = .returned (.bool (smV 1 13 (0) (2) l)) ∧ Gr (fun _ => False) w w') := fun hq w gw => by
  have h1 : 0 ≤ 2 := by omega
  have h2 : 2 ≤ l.length := by omega
  have := rsome_c N w 8 s 0 _ ⟨ba, b.length, bc, rfl⟩ la lc l (0) (2) 1 13 (hrow.g0 gw) (Nat.le_trans hN gw.size) h1 h2 hl
  exact this
 have hbN : (0 : Int) ≤ (b.length : Int) := by omega
 generalize smV 1 13 (0) (2) l = r1 at hc1 ⊢
 clear hrow hl
 generalize b.length = bl at *
 generalize l.length = ll at *
 by_cases qL : (ll : Int) = 2
 case neg =>
  have e9 : (((ll : Int) == 2) && r1) = false := by simp [qL]
  rw [e9]
  clear hc1 e9
  go_enter Tryz.func27, Tryz.ntmps27
  go_wp2_with fail
  go_ret
  exact ⟨rfl, gA⟩
 have e9 : (((ll : Int) == 2) && r1) = r1 := by simp [qL]
 rw [e9]
 clear e9
 go_enter Tryz.func27, Tryz.ntmps27
 go_wp2_with fail
 refine (hc1.out (by first | trivial | assumption) _ (gA)).mono ?_
 rintro e w1 ⟨rfl, g1⟩
 have G1 := (gA).trans g1
 have x0_1 := cell_gr m0 g1 (fun e => e)
 have x1_1 := cell_gr m1 g1 (fun e => e)
 have x2_1 := cell_gr m2 g1 (fun e => e)
 have x3_1 := cell_gr m3 g1 (fun e => e)
 have x4_1 := cell_gr m4 g1 (fun e => e)
 have hz1 : W.heap.size < w1.heap.size := World.block_lt_of_cell? _ _ x0_1
 go_wp2_with fail
 go_ret
 exact ⟨rfl, G1⟩
set_option maxRecDepth 100000 in
set_option maxHeartbeats 3200000 in
theorem fm8_7 (s : ByteArray) (q0 : (s.toList == [43]) = false) (q1 : (s.toList == [45]) = false) (q2 : (s.toList == [42]) = false) (q3 : (s.toList == [47]) = false) (q4 : (s.toList == [114, 101, 109]) = false) (q5 : (s.toList == [61, 61]) = false) (q6 : (s.toList == [47, 61]) = false) (q7 : (s.toList == [60]) = true) (b : List Int) (hb0 : ¬ 0 < b.length) (l : List Tr) (hl : l.length ≤ 4611686018427387904) : FmIs 8 s 0 b l (((l.length : Int) == 2) && smV 1 13 (0) (2) l) := by
 intro N W ba bc la lc hrow hN
 have gA := Gr.alloc W (.cells #[.int .i64 8, .string s, .int .i64 0, .slice ba b.length bc, .slice la l.length lc] 25) (fun _ => False)
 obtain ⟨⟨m0, m1, m2, m3, m4⟩, _⟩ := five_cells (heap_alloc_new W (.cells #[.int .i64 8, .string s, .int .i64 0, .slice ba b.length bc, .slice la l.length lc] 25))
 have hlI : (l.length : Int) ≤ 4611686018427387904 := by omega
 have hl0 : (0 : Int) ≤ (l.length : Int) := by omega
 have gS : ¬ s.toList = [] := fun e => by rw [e] at q7; exact absurd q7 (by decide)
 have gS2 : s.toList.isEmpty = false := by simpa using gS
 have hc1 : Hid ((l.length : Int) = 2 → ∀ w, Gr (fun _ => False) W w → Calls Tryz.prog 60 #[trv 8 s 0 (.slice ba b.length bc) (.slice la l.length lc), .int .i64 0, .int .i64 2, .int .i64 1, .int .i64 13] w fun e w' => e = .returned (.bool (smV 1 13 (0) (2) l)) ∧ Gr (fun _ => False) w w') := fun hq w gw => by
  have h1 : 0 ≤ 2 := by omega
  have h2 : 2 ≤ l.length := by omega
  have := rsome_c N w 8 s 0 _ ⟨ba, b.length, bc, rfl⟩ la lc l (0) (2) 1 13 (hrow.g0 gw) (Nat.le_trans hN gw.size) h1 h2 hl
  exact this
 have hbN : (0 : Int) ≤ (b.length : Int) := by omega
 generalize smV 1 13 (0) (2) l = r1 at hc1 ⊢
 clear hrow hl
 generalize b.length = bl at *
 generalize l.length = ll at *
 by_cases qL : (ll : Int) = 2
 case neg =>
  have e9 : (((ll : Int) == 2) && r1) = false := by simp [qL]
  rw [e9]
  clear hc1 e9
  go_enter Tryz.func27, Tryz.ntmps27
  go_wp2_with fail
  go_ret
  exact ⟨rfl, gA⟩
 have e9 : (((ll : Int) == 2) && r1) = r1 := by simp [qL]
 rw [e9]
 clear e9
 go_enter Tryz.func27, Tryz.ntmps27
 go_wp2_with fail
 refine (hc1.out (by first | trivial | assumption) _ (gA)).mono ?_
 rintro e w1 ⟨rfl, g1⟩
 have G1 := (gA).trans g1
 have x0_1 := cell_gr m0 g1 (fun e => e)
 have x1_1 := cell_gr m1 g1 (fun e => e)
 have x2_1 := cell_gr m2 g1 (fun e => e)
 have x3_1 := cell_gr m3 g1 (fun e => e)
 have x4_1 := cell_gr m4 g1 (fun e => e)
 have hz1 : W.heap.size < w1.heap.size := World.block_lt_of_cell? _ _ x0_1
 go_wp2_with fail
 go_ret
 exact ⟨rfl, G1⟩
end Go.Proofs.YtjedbfbolifjjaaGreatDoor

namespace Go.Proofs.YtjedbfbolifjjaaGreatDoor
open Go.RowKit Go.Maps
variable {W W' : World}
set_option maxRecDepth 100000 in
set_option maxHeartbeats 3200000 in
theorem fm8_8 (s : ByteArray) (q0 : (s.toList == [43]) = false) (q1 : (s.toList == [45]) = false) (q2 : (s.toList == [42]) = false) (q3 : (s.toList == [47]) = false) (q4 : (s.toList == [114, 101, 109]) = false) (q5 : (s.toList == [61, 61]) = false) (q6 : (s.toList == [47, 61]) = false) (q7 : (s.toList == [60]) = false) (q8 : (s.toList == [62]) = true) (b : List Int) (hb0 : ¬ 0 < b.length) (l : List Tr) (hl : l.length ≤ 4611686018427387904) : FmIs 8 s 0 b l (((l.length : Int) == 2) && smV 1 13 (0) (2) l) := by
 intro N W ba bc la lc hrow hN
 have gA := Gr.alloc W (.cells #[.int .i64 8, .string s, .int .i64 0, .slice ba b.length bc, .slice la l.length lc] 25) (fun _ => False)
 obtain ⟨⟨m0, m1, m2, m3, m4⟩, _⟩ := five_cells (heap_alloc_new W (.cells #[.int .i64 8, .string s, .int .i64 0, .slice ba b.length bc, .slice la l.length lc] 25))
 have hlI : (l.length : Int) ≤ 4611686018427387904 := by omega
 have hl0 : (0 : Int) ≤ (l.length : Int) := by omega
 have gS : ¬ s.toList = [] := fun e => by rw [e] at q8; exact absurd q8 (by decide)
 have gS2 : s.toList.isEmpty = false := by simpa using gS
 have hc1 : Hid ((l.length : Int) = 2 → ∀ w, Gr (fun _ => False) W w → Calls Tryz.prog 60 #[trv 8 s 0 (.slice ba b.length bc) (.slice la l.length lc), .int .i64 0, .int .i64 2, .int .i64 1, .int .i64 13] w fun e w' => e = .returned (.bool (smV 1 13 (0) (2) l)) ∧ Gr (fun _ => False) w w') := fun hq w gw => by
  have h1 : 0 ≤ 2 := by omega
  have h2 : 2 ≤ l.length := by omega
  have := rsome_c N w 8 s 0 _ ⟨ba, b.length, bc, rfl⟩ la lc l (0) (2) 1 13 (hrow.g0 gw) (Nat.le_trans hN gw.size) h1 h2 hl
  exact this
 have hbN : (0 : Int) ≤ (b.length : Int) := by omega
 generalize smV 1 13 (0) (2) l = r1 at hc1 ⊢
 clear hrow hl
 generalize b.length = bl at *
 generalize l.length = ll at *
 by_cases qL : (ll : Int) = 2
 case neg =>
  have e9 : (((ll : Int) == 2) && r1) = false := by simp [qL]
  rw [e9]
  clear hc1 e9
  go_enter Tryz.func27, Tryz.ntmps27
  go_wp2_with fail
  go_ret
  exact ⟨rfl, gA⟩
 have e9 : (((ll : Int) == 2) && r1) = r1 := by simp [qL]
 rw [e9]
 clear e9
 go_enter Tryz.func27, Tryz.ntmps27
 go_wp2_with fail
 refine (hc1.out (by first | trivial | assumption) _ (gA)).mono ?_
 rintro e w1 ⟨rfl, g1⟩
 have G1 := (gA).trans g1
 have x0_1 := cell_gr m0 g1 (fun e => e)
 have x1_1 := cell_gr m1 g1 (fun e => e)
 have x2_1 := cell_gr m2 g1 (fun e => e)
 have x3_1 := cell_gr m3 g1 (fun e => e)
 have x4_1 := cell_gr m4 g1 (fun e => e)
 have hz1 : W.heap.size < w1.heap.size := World.block_lt_of_cell? _ _ x0_1
 go_wp2_with fail
 go_ret
 exact ⟨rfl, G1⟩
set_option maxRecDepth 100000 in
set_option maxHeartbeats 3200000 in
theorem fm8_9 (s : ByteArray) (q0 : (s.toList == [43]) = false) (q1 : (s.toList == [45]) = false) (q2 : (s.toList == [42]) = false) (q3 : (s.toList == [47]) = false) (q4 : (s.toList == [114, 101, 109]) = false) (q5 : (s.toList == [61, 61]) = false) (q6 : (s.toList == [47, 61]) = false) (q7 : (s.toList == [60]) = false) (q8 : (s.toList == [62]) = false) (q9 : (s.toList == [61, 60]) = true) (b : List Int) (hb0 : ¬ 0 < b.length) (l : List Tr) (hl : l.length ≤ 4611686018427387904) : FmIs 8 s 0 b l (((l.length : Int) == 2) && smV 1 13 (0) (2) l) := by
 intro N W ba bc la lc hrow hN
 have gA := Gr.alloc W (.cells #[.int .i64 8, .string s, .int .i64 0, .slice ba b.length bc, .slice la l.length lc] 25) (fun _ => False)
 obtain ⟨⟨m0, m1, m2, m3, m4⟩, _⟩ := five_cells (heap_alloc_new W (.cells #[.int .i64 8, .string s, .int .i64 0, .slice ba b.length bc, .slice la l.length lc] 25))
 have hlI : (l.length : Int) ≤ 4611686018427387904 := by omega
 have hl0 : (0 : Int) ≤ (l.length : Int) := by omega
 have gS : ¬ s.toList = [] := fun e => by rw [e] at q9; exact absurd q9 (by decide)
 have gS2 : s.toList.isEmpty = false := by simpa using gS
 have hc1 : Hid ((l.length : Int) = 2 → ∀ w, Gr (fun _ => False) W w → Calls Tryz.prog 60 #[trv 8 s 0 (.slice ba b.length bc) (.slice la l.length lc), .int .i64 0, .int .i64 2, .int .i64 1, .int .i64 13] w fun e w' => e = .returned (.bool (smV 1 13 (0) (2) l)) ∧ Gr (fun _ => False) w w') := fun hq w gw => by
  have h1 : 0 ≤ 2 := by omega
  have h2 : 2 ≤ l.length := by omega
  have := rsome_c N w 8 s 0 _ ⟨ba, b.length, bc, rfl⟩ la lc l (0) (2) 1 13 (hrow.g0 gw) (Nat.le_trans hN gw.size) h1 h2 hl
  exact this
 have hbN : (0 : Int) ≤ (b.length : Int) := by omega
 generalize smV 1 13 (0) (2) l = r1 at hc1 ⊢
 clear hrow hl
 generalize b.length = bl at *
 generalize l.length = ll at *
 by_cases qL : (ll : Int) = 2
 case neg =>
  have e9 : (((ll : Int) == 2) && r1) = false := by simp [qL]
  rw [e9]
  clear hc1 e9
  go_enter Tryz.func27, Tryz.ntmps27
  go_wp2_with fail
  go_ret
  exact ⟨rfl, gA⟩
 have e9 : (((ll : Int) == 2) && r1) = r1 := by simp [qL]
 rw [e9]
 clear e9
 go_enter Tryz.func27, Tryz.ntmps27
 go_wp2_with fail
 refine (hc1.out (by first | trivial | assumption) _ (gA)).mono ?_
 rintro e w1 ⟨rfl, g1⟩
 have G1 := (gA).trans g1
 have x0_1 := cell_gr m0 g1 (fun e => e)
 have x1_1 := cell_gr m1 g1 (fun e => e)
 have x2_1 := cell_gr m2 g1 (fun e => e)
 have x3_1 := cell_gr m3 g1 (fun e => e)
 have x4_1 := cell_gr m4 g1 (fun e => e)
 have hz1 : W.heap.size < w1.heap.size := World.block_lt_of_cell? _ _ x0_1
 go_wp2_with fail
 go_ret
 exact ⟨rfl, G1⟩
set_option maxRecDepth 100000 in
set_option maxHeartbeats 3200000 in
theorem fm8_10 (s : ByteArray) (q0 : (s.toList == [43]) = false) (q1 : (s.toList == [45]) = false) (q2 : (s.toList == [42]) = false) (q3 : (s.toList == [47]) = false) (q4 : (s.toList == [114, 101, 109]) = false) (q5 : (s.toList == [61, 61]) = false) (q6 : (s.toList == [47, 61]) = false) (q7 : (s.toList == [60]) = false) (q8 : (s.toList == [62]) = false) (q9 : (s.toList == [61, 60]) = false) (q10 : (s.toList == [62, 61]) = true) (b : List Int) (hb0 : ¬ 0 < b.length) (l : List Tr) (hl : l.length ≤ 4611686018427387904) : FmIs 8 s 0 b l (((l.length : Int) == 2) && smV 1 13 (0) (2) l) := by
 intro N W ba bc la lc hrow hN
 have gA := Gr.alloc W (.cells #[.int .i64 8, .string s, .int .i64 0, .slice ba b.length bc, .slice la l.length lc] 25) (fun _ => False)
 obtain ⟨⟨m0, m1, m2, m3, m4⟩, _⟩ := five_cells (heap_alloc_new W (.cells #[.int .i64 8, .string s, .int .i64 0, .slice ba b.length bc, .slice la l.length lc] 25))
 have hlI : (l.length : Int) ≤ 4611686018427387904 := by omega
 have hl0 : (0 : Int) ≤ (l.length : Int) := by omega
 have gS : ¬ s.toList = [] := fun e => by rw [e] at q10; exact absurd q10 (by decide)
 have gS2 : s.toList.isEmpty = false := by simpa using gS
 have hc1 : Hid ((l.length : Int) = 2 → ∀ w, Gr (fun _ => False) W w → Calls Tryz.prog 60 #[trv 8 s 0 (.slice ba b.length bc) (.slice la l.length lc), .int .i64 0, .int .i64 2, .int .i64 1, .int .i64 13] w fun e w' => e = .returned (.bool (smV 1 13 (0) (2) l)) ∧ Gr (fun _ => False) w w') := fun hq w gw => by
  have h1 : 0 ≤ 2 := by omega
  have h2 : 2 ≤ l.length := by omega
  have := rsome_c N w 8 s 0 _ ⟨ba, b.length, bc, rfl⟩ la lc l (0) (2) 1 13 (hrow.g0 gw) (Nat.le_trans hN gw.size) h1 h2 hl
  exact this
 have hbN : (0 : Int) ≤ (b.length : Int) := by omega
 generalize smV 1 13 (0) (2) l = r1 at hc1 ⊢
 clear hrow hl
 generalize b.length = bl at *
 generalize l.length = ll at *
 by_cases qL : (ll : Int) = 2
 case neg =>
  have e9 : (((ll : Int) == 2) && r1) = false := by simp [qL]
  rw [e9]
  clear hc1 e9
  go_enter Tryz.func27, Tryz.ntmps27
  go_wp2_with fail
  go_ret
  exact ⟨rfl, gA⟩
 have e9 : (((ll : Int) == 2) && r1) = r1 := by simp [qL]
 rw [e9]
 clear e9
 go_enter Tryz.func27, Tryz.ntmps27
 go_wp2_with fail
 refine (hc1.out (by first | trivial | assumption) _ (gA)).mono ?_
 rintro e w1 ⟨rfl, g1⟩
 have G1 := (gA).trans g1
 have x0_1 := cell_gr m0 g1 (fun e => e)
 have x1_1 := cell_gr m1 g1 (fun e => e)
 have x2_1 := cell_gr m2 g1 (fun e => e)
 have x3_1 := cell_gr m3 g1 (fun e => e)
 have x4_1 := cell_gr m4 g1 (fun e => e)
 have hz1 : W.heap.size < w1.heap.size := World.block_lt_of_cell? _ _ x0_1
 go_wp2_with fail
 go_ret
 exact ⟨rfl, G1⟩
end Go.Proofs.YtjedbfbolifjjaaGreatDoor
