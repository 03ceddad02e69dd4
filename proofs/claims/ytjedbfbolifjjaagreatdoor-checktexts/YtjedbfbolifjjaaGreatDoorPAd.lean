/-
  The reference's Formed: joins.
  The reference's Formed: joins.
-/
import Derived.Test.YtjedbfbolifjjaaGreatDoorMN
import Derived.Test.YtjedbfbolifjjaaGreatDoorMP
set_option linter.unusedVariables false
set_option linter.unusedSimpArgs false
namespace Go.Proofs.YtjedbfbolifjjaaGreatDoor
open Go.RowKit Go.Maps
variable {W W' : World}
set_option maxRecDepth 100000 in
set_option maxHeartbeats 3200000 in
theorem fm8_0 (s : ByteArray) (q0 : (s.toList == [43]) = true) (b : List Int) (hb0 : ¬ 0 < b.length) (l : List Tr) (hl : l.length ≤ 4611686018427387904) : FmIs 8 s 0 b l (((l.length : Int) == 2) && smV 1 13 (0) (2) l) := by
 intro N W ba bc la lc hrow hN
 have gA := Gr.alloc W (.cells #[.int .i64 8, .string s, .int .i64 0, .slice ba b.length bc, .slice la l.length lc] 25) (fun _ => False)
 obtain ⟨⟨m0, m1, m2, m3, m4⟩, _⟩ := five_cells (heap_alloc_new W (.cells #[.int .i64 8, .string s, .int .i64 0, .slice ba b.length bc, .slice la l.length lc] 25))
 have hlI : (l.length : Int) ≤ 4611686018427387904 := by omega
 have hl0 : (0 : Int) ≤ (l.length : Int) := by omega
 have gS : ¬ s.toList = [] := fun e => by rw [e] at q0; exact absurd q0 (by decide)
 have gS2 : s.toList.isEmpty = false := by simpa using gS
 have hc1 : Hid ((l.length : Int) = 2 → ∀ w, Gr (fun _ => False) W w → Calls Tryz.prog 60 #[trv 8 s 0 (.slice ba b.length bc) (.slice la l.length lc), .int .i64 0, .int .i64 2, .int .i64 1, .int .i64 13] w fun e w' => e = .returned (.bool (smV 1 13 (0) (2) l)) ∧ Gr (fun _ => False) w w') := fun hq w gw => by
  have h1 : 0 ≤ 2 := by omega
  have h2 : 2 ≤ l.length := by omega
  have := rsome_c N w 8 s 0 _ ⟨ba, b.length, bc, rfl⟩ la lc l (0) (2) 1 13 (hrow.g0 gw) (Nat.le_trans hN gw.size) h1 h2 hl
  exact this
 have hbN : (0 : Int) ≤ (b.length : Int) := by omega
 generalize smV 1 13 (0) (2) l = r1 at hc1 ⊢
 clear hrow hl
 generalize b.length = bl at *
 generalize l.length = ll at *
 by_cases qL : (ll : Int) = 2
 case neg =>
  have e9 : (((ll : Int) == 2) && r1) = false := by simp [qL]
  rw [e9]
  clear hc1 e9
  go_enter Tryz.func27, Tryz.ntmps27
  go_wp2_with fail
  go_ret
  exact ⟨rfl, gA⟩
 have e9 : (((ll : Int) == 2) && r1) = r1 := by simp [qL]
 rw [e9]
 clear e9
 go_enter Tryz.func27, Tryz.ntmps27
 go_wp2_with fail
 refine (hc1.out (by first | trivial | assumption) _ (gA)).mono ?_
 rintro e w1 ⟨rfl, g1⟩
 have G1 := (gA).trans g1
 have x0_1 := cell_gr m0 g1 (fun e => e)
 have x1_1 := cell_gr m1 g1 (fun e => e)
 have x2_1 := cell_gr m2 g1 (fun e => e)
 have x3_1 := cell_gr m3 g1 (fun e => e)
 have x4_1 := cell_gr m4 g1 (fun e => e)
 have hz1 : W.heap.size < w1.heap.size := World.block_lt_of_cell? _ _ x0_1
 go_wp2_with fail
 go_ret
 exact ⟨rfl, G1⟩
set_option maxRecDepth 100000 in
set_option maxHeartbeats 3200000 in
theorem fm8_1 (s : ByteArray) (q0 : (s.toList == [43]) = false) (q1 : (s.toList == [45]) = true) (b : List Int) (hb0 : ¬ 0 < b.length) (l : List Tr) (hl : l.length ≤ 4611686018427387904) : FmIs 8 s 0 b l (((l.length : Int) == 2) && smV 1 13 (0) (2) l) := by
 intro N W ba bc la lc hrow hN
 have gA := Gr.alloc W (.cells #[.int .i64 8, .string s, .int .i64 0, .slice ba b.length bc, .slice la l.length lc] 25) (fun _ => False)
 obtain ⟨⟨m0, m1, m2, m3, m4⟩, _⟩ := five_cells (heap_alloc_new W (.cells #[.int .i64 8, .string s, .int .i64 0, .slice ba b.length bc, .slice la l.length lc] 25))
 have hlI : (l.length : Int) ≤ 4611686018427387904 := by omega
 have hl0 : (0 : Int) ≤ (l.length : Int) := by omega
 have gS : ¬ s.toList = [] := fun e => by rw [e] at q1; exact absurd q1 (by decide)
 have gS2 : s.toList.isEmpty = false := by simpa using gS
 have hc1 : Hid ((l.length : Int) = 2 → ∀ w, Gr (fun _ => False) W w → Calls Tryz.prog 60 #[trv 8 s 0 (.slice ba b.length bc) (.slice la l.length lc), .int .i64 0, .int .i64 2, .int .i64 1, .int .i64 13] w fun e w' => e = .returned (.bool (smV 1 13 (0) (2) l)) ∧ Gr (fun _ => False) w w') := fun hq w gw => by
  have h1 : 0 ≤ 2 := by omega
  have h2 : 2 ≤ l.length := by omega
  have := rsome_c N w 8 s 0 _ ⟨ba, b.length, bc, rfl⟩ la lc l (0) (2) 1 13 (hrow.g0 gw) (Nat.le_trans hN gw.size) h1 h2 hl
  exact this
 have hbN : (0 : Int) ≤ (b.length : Int) := by omega
 generalize smV 1 13 (0) (2) l = r1 at hc1 ⊢
 clear hrow hl
 generalize b.length = bl at *
 generalize l.length = ll at *
 by_cases qL : (ll : Int) = 2
 case neg =>
  have e9 : (((ll : Int) == 2) && r1) = false := by simp [qL]
  rw [e9]
  clear hc1 e9
  go_enter Tryz.func27, Tryz.ntmps27
  go_wp2_with fail
  go_ret
  exact ⟨rfl, gA⟩
 have e9 : (((ll : Int) == 2) && r1) = r1 := by simp [qL]
 rw [e9]
 clear e9
 go_enter Tryz.func27, Tryz.ntmps27
 go_wp2_with fail
 refine (hc1.out (by first | trivial | assumption) _ (gA)).mono ?_
 rintro e w1 ⟨rfl, g1⟩
 have G1 := (gA).trans g1
 have x0_1 := cell_gr m0 g1 (fun e => e)
 have x1_1 := cell_gr m1 g1 (fun e => e)
 have x2_1 := cell_gr m2 g1 (fun e => e)
 have x3_1 := cell_gr m3 g1 (fun e => e)
 have x4_1 := cell_gr m4 g1 (fun e => e)
 have hz1 : W.heap.size < w1.heap.size := World.block_lt_of_cell? _ _ x0_1
 go_wp2_with fail
 go_ret
 exact ⟨rfl, G1⟩
set_option maxRecDepth 100000 in
set_option maxHeartbeats 3200000 in
theorem fm8_n (s : ByteArray) (n : Int) (b : List Int) (l : List Tr) (hno : (n != 0) = true ∨ 0 < b.length) (hl : l.length ≤ 4611686018427387904) : FmIs 8 s n b l false := by
 intro N W ba bc la lc hrow hN
 have gA := Gr.alloc W (.cells #[.int .i64 8, .string s, .int .i64 n, .slice ba b.length bc, .slice la l.length lc] 25) (fun _ => False)
 obtain ⟨⟨m0, m1, m2, m3, m4⟩, _⟩ := five_cells (heap_alloc_new W (.cells #[.int .i64 8, .string s, .int .i64 n, .slice ba b.length bc, .slice la l.length lc] 25))
 have hlI : (l.length : Int) ≤ 4611686018427387904 := by omega
 have hl0 : (0 : Int) ≤ (l.length : Int) := by omega
 have hbN : (0 : Int) ≤ (b.length : Int) := by omega
 clear hrow hl
 generalize b.length = bl at *
 generalize l.length = ll at *
 cases gN : (n != 0) with
 | true =>
  by_cases gS : s.toList = []
  all_goals
   go_enter Tryz.func27, Tryz.ntmps27
   go_wp2_with fail
   go_ret
   exact ⟨rfl, gA⟩
 | false =>
  have gB : 0 < bl := hno.resolve_left (by rw [gN]; decide)
  clear hno
  by_cases gS : s.toList = []
  all_goals
   go_enter Tryz.func27, Tryz.ntmps27
   go_wp2_with fail
   go_ret
   exact ⟨rfl, gA⟩
end Go.Proofs.YtjedbfbolifjjaaGreatDoor

namespace Go.Proofs.YtjedbfbolifjjaaGreatDoor
open Go.RowKit Go.Maps
variable {W W' : World}
set_option maxRecDepth 100000 in
set_option maxHeartbeats 3200000 in
theorem fm8_2 (s : ByteArray) (q0 : (s.toList == [43]) = false) (q1 : (s.toList == [45]) = false) (q2 : (s.toList == [42]) = true) (b : List Int) (hb0 : ¬ 0 < b.length) (l : List Tr) (hl : l.length ≤ 4611686018427387904) : FmIs 8 s 0 b l (((l.length : Int) == 2) && smV 1 13 (0) (2) l) := by
 intro N W ba bc la lc hrow hN
 have gA := Gr.alloc W (.cells #[.int .i64 8, .string s, .int .i64 0, .slice ba b.length bc, .slice la l.length lc] 25) (fun _ => False)
 obtain ⟨⟨m0, m1, m2, m3, m4⟩, _⟩ := five_cells (heap_alloc_new W (.cells #[.int .i64 8, .string s, .int .i64 0, .slice ba b.length bc, .slice la l.length lc] 25))
 have hlI : (l.length : Int) ≤ 4611686018427387904 := by omega
 have hl0 : (0 : Int) ≤ (l.length : Int) := by omega
 have gS : ¬ s.toList = [] := fun e => by rw [e] at q2; exact absurd q2 (by decide)
 have gS2 : s.toList.isEmpty = false := by simpa using gS
 have hc1 : Hid ((l.length : Int) = 2 → ∀ w, Gr (fun _ => False) W w → Calls Tryz.prog 60 #[trv 8 s 0 (.slice ba b.length bc) (.slice la l.length lc), .int .i64 0, .int .i64 2, .int .i64 1, .int .i64 13] w fun e w' => e = .returned (.bool (smV 1 13 (0) (2) l)) ∧ Gr (fun _ => False) w w') := fun hq w gw => by
  have h1 : 0 ≤ 2 := by omega
  have h2 : 2 ≤ l.length := by omega
  have := rsome_c N w 8 s 0 _ ⟨ba, b.length, bc, rfl⟩ la lc l (0) (2) 1 13 (hrow.g0 gw) (Nat.le_trans hN gw.size) h1 h2 hl
  exact this
 have hbN : (0 : Int) ≤ (b.length : Int) := by omega
 generalize smV 1 13 (0) (2) l = r1 at hc1 ⊢
 clear hrow hl
 generalize b.length = bl at *
 generalize l.length = ll at *
 by_cases qL : (ll : Int) = 2
 case neg =>
  have e9 : (((ll : Int) == 2) && r1) = false := by simp [qL]
  rw [e9]
  clear hc1 e9
  go_enter Tryz.func27, Tryz.ntmps27
  go_wp2_with fail
  go_ret
  exact ⟨rfl, gA⟩
 have e9 : (((ll : Int) == 2) && r1) = r1 := by simp [qL]
 rw [e9]
 clear e9
 go_enter Tryz.func27, Tryz.ntmps27
 go_wp2_with fail
 refine (hc1.out (by first | trivial | assumption) _ (gA)).mono ?_
 rintro e w1 ⟨rfl, g1⟩
 have G1 := (gA).trans g1
 have x0_1 := cell_gr m0 g1 (fun e => e)
 have x1_1 := cell_gr m1 g1 (fun e => e)
 have x2_1 := cell_gr m2 g1 (fun e => e)
 have x3_1 := cell_gr m3 g1 (fun e => e)
 have x4_1 := cell_gr m4 g1 (fun e => e)
 have hz1 : W.heap.size < w1.heap.size := World.block_lt_of_cell? _ _ x0_1
 go_wp2_with fail
 go_ret
 exact ⟨rfl, G1⟩
set_option maxRecDepth 100000 in
set_option maxHeartbeats 3200000 in
theorem fm8_3 (s : ByteArray) (q0 : (s.toList == [43]) = false) (q1 : (s.toList == [45]) = false) (q2 : (s.toList == [42]) = false) (q3 : (s.toList == [47]) = true) (b : List Int) (hb0 : ¬ 0 < b.length) (l : List Tr) (hl : l.length ≤ 4611686018427387904) : FmIs 8 s 0 b l (((l.length : Int) == 2) && smV 1 13 (0) (2) l) := by
 intro N W ba bc la lc hrow hN
 have gA := Gr.alloc W (.cells #[.int .i64 8, .string s, .int .i64 0, .slice ba b.length bc, .slice la l.length lc] 25) (fun _ => False)
 obtain ⟨⟨m0, m1, m2, m3, m4⟩, _⟩ := five_cells (heap_alloc_new W (.cells #[.int .i64 8, .string s, .int .i64 0, .slice ba b.length bc, .slice la l.length lc] 25))
 have hlI : (l.length : Int) ≤ 4611686018427387904 := by omega
 have hl0 : (0 : Int) ≤ (l.length : Int) := by omega
 have gS : ¬ s.toList = [] := fun e => by rw [e] at q3; exact absurd q3 (by decide)
 have gS2 : s.toList.isEmpty = false := by simpa using gS
 have hc1 : Hid ((l.length : Int) = 2 → ∀ w, Gr (fun _ => False) W w → Calls Tryz.prog 60 #[trv 8 s 0 (.slice ba b.length bc) (.slice la l.length lc), .int .i64 0, .int .i64 2, .int .i64 1, .int .i64 13] w fun e w' => e = .returned (.bool (smV 1 13 (0) (2) l)) ∧ Gr (fun _ => False) w w') := fun hq w gw => by
  have h1 : 0 ≤ 2 := by omega
  have h2 : 2 ≤ l.length := by omega
  have := rsome_c N w 8 s 0 _ ⟨ba, b.length, bc, rfl⟩ la lc l (0) (2) 1 13 (hrow.g0 gw) (Nat.le_trans hN gw.size) h1 h2 hl
  exact this
 have hbN : (0 : Int) ≤ (b.length : Int) := by omega
 generalize smV 1 13 (0) (2) l = r1 at hc1 ⊢
 clear hrow hl
 generalize b.length = bl at *
 generalize l.length = ll at *
 by_cases qL : (ll : Int) = 2
 case neg =>
  have e9 : (((ll : Int) == 2) && r1) = false := by simp [qL]
  rw [e9]
  clear hc1 e9
  go_enter Tryz.func27, Tryz.ntmps27
  go_wp2_with fail
  go_ret
  exact ⟨rfl, gA⟩
 have e9 : (((ll : Int) == 2) && r1) = r1 := by simp [qL]
 rw [e9]
 clear e9
 go_enter Tryz.func27, Tryz.ntmps27
 go_wp2_with fail
 refine (hc1.out (by first | trivial | assumption) _ (gA)).mono ?_
 rintro e w1 ⟨rfl, g1⟩
 have G1 := (gA).trans g1
 have x0_1 := cell_gr m0 g1 (fun e => e)
 have x1_1 := cell_gr m1 g1 (fun e => e)
 have x2_1 := cell_gr m2 g1 (fun e => e)
 have x3_1 := cell_gr m3 g1 (fun e => e)
 have x4_1 := cell_gr m4 g1 (fun e => e)
 have hz1 : W.heap.size < w1.heap.size := World.block_lt_of_cell? _ _ x0_1
 go_wp2_with fail
 go_ret
 exact ⟨rfl, G1⟩
set_option maxRecDepth 100000 in
set_option maxHeartbeats 3200000 in
theorem fm8_4 (s : ByteArray) (q0 : (s.toList == [43]) = false) (q1 : (s.toList == [45]) = false) (q2 : (s.toList == [42]) = false) (q3 : (s.toList == [47]) = false) (q4 : (s.toList == [114, 101, 109]) = true) (b : List Int) (hb0 : ¬ 0 < b.length) (l : List Tr) (hl : l.length ≤ 4611686018427387904) : FmIs 8 s 0 b l (((l.length : Int) == 2) && smV 1 13 (0) (2) l) := by
 intro N W ba bc la lc hrow hN
 have gA := Gr.alloc W (.cells #[.int .i64 8, .string s, .int .i64 0, .slice ba b.length bc, .slice la l.length lc] 25) (fun _ => False)
 obtain ⟨⟨m0, m1, m2, m3, m4⟩, _⟩ := five_cells (heap_alloc_new W (.cells #[.int .i64 8, .string s, .int .i64 0, .slice ba b.length bc, .slice la l.length lc] 25))
 have hlI : (l.length : Int) ≤ 4611686018427387904 := by omega
 have hl0 : (0 : Int) ≤ (l.length : Int) := by omega
 have gS : ¬ s.toList = [] := fun e => by rw [e] at q4; exact absurd q4 (by decide)
 have gS2 : s.toList.isEmpty = false := by simpa using gS
 have hc1 : Hid ((l.length : Int) = 2 → ∀ w, Gr (fun _ => False) W w → Calls Tryz.prog 60 #[trv 8 s 0 (.slice ba b.length bc) (.slice la l.length lc), .int .i64 0, .int .i64 2, .int .i64 1, .int .i64 13] w fun e w' => e = .returned (.bool (smV 1 13 (0) (2) l)) ∧ Gr (fun _ => False) w w') := fun hq w gw => by
  have h1 : 0 ≤ 2 := by omega
  have h2 : 2 ≤ l.length := by omega
  have := rsome_c N w 8 s 0 _ ⟨ba, b.length, bc, rfl⟩ la lc l (0) (2) 1 13 (hrow.g0 gw) (Nat.le_trans hN gw.size) h1 h2 hl
  exact this
 have hbN : (0 : Int) ≤ (b.length : Int) := by omega
 generalize smV 1 13 (0) (2) l = r1 at hc1 ⊢
 clear hrow hl
 generalize b.length = bl at *
 generalize l.length = ll at *
 by_cases qL : (ll : Int) = 2
 case neg =>
  have e9 : (((ll : Int) == 2) && r1) = false := by simp [qL]
  rw [e9]
  clear hc1 e9
  go_enter Tryz.func27, Tryz.ntmps27
  go_wp2_with fail
  go_ret
  exact ⟨rfl, gA⟩
 have e9 : (((ll : Int) == 2) && r1) = r1 := by simp [qL]
 rw [e9]
 clear e9
 go_enter Tryz.func27, Tryz.ntmps27
 go_wp2_with fail
 refine (hc1.out (by first | trivial | assumption) _ (gA)).mono ?_
 rintro e w1 ⟨rfl, g1⟩
 have G1 := (gA).trans g1
 have x0_1 := cell_gr m0 g1 (fun e => e)
 have x1_1 := cell_gr m1 g1 (fun e => e)
 have x2_1 := cell_gr m2 g1 (fun e => e)
 have x3_1 := cell_gr m3 g1 (fun e => e)
 have x4_1 := cell_gr m4 g1 (fun e => e)
 have hz1 : W.heap.size < w1.heap.size := World.block_lt_of_cell? _ _ x0_1
 go_wp2_with fail
 go_ret
 exact ⟨rfl, G1⟩
end Go.Proofs.YtjedbfbolifjjaaGreatDoor
