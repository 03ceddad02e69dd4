/-
  The reference's Formed: the kinds that are left.
  The reference's Formed: the kinds that are left.
  The reference's Formed: joins.
-/
import Derived.Test.YtjedbfbolifjjaaGreatDoorMN
import Derived.Test.YtjedbfbolifjjaaGreatDoorMP
set_option linter.unusedVariables false
set_option linter.unusedSimpArgs false
namespace Go.Proofs.YtjedbfbolifjjaaGreatDoor
open Go.RowKit Go.Maps
variable {W W' : World}
set_option maxRecDepth 100000 in
set_option maxHeartbeats 3200000 in
theorem fm3 (s : ByteArray) (n : Int) (b : List Int) (l : List Tr) (hl : l.length ≤ 4611686018427387904) : FmIs 3 s n b l (!(n != 0) && !decide (0 < (b.length : Int)) && ((l.length : Int) == 0) && (isVarN s || (s.toList == [95]))) := by
 intro N W ba bc la lc hrow hN
 have gA := Gr.alloc W (.cells #[.int .i64 3, .string s, .int .i64 n, .slice ba b.length bc, .slice la l.length lc] 25) (fun _ => False)
 obtain ⟨⟨m0, m1, m2, m3, m4⟩, _⟩ := five_cells (heap_alloc_new W (.cells #[.int .i64 3, .string s, .int .i64 n, .slice ba b.length bc, .slice la l.length lc] 25))
 have hlI : (l.length : Int) ≤ 4611686018427387904 := by omega
 have hl0 : (0 : Int) ≤ (l.length : Int) := by omega
 have hc1 : Hid (True → ∀ w, Gr (fun _ => False) W w → Calls Tryz.prog 59 #[.string s] w fun e w' => e = .returned (.bool (isVarN s)) ∧ Gr (fun _ => False) w w') := fun _ w gw => (rvar_c s w).mono fun e w' ⟨h1, h2⟩ => ⟨h1, by rw [h2]; exact Gr.refl _ _⟩
 have hbN : (0 : Int) ≤ (b.length : Int) := by omega
 generalize isVarN s = r1 at hc1 ⊢
 clear hrow hl
 generalize b.length = bl at *
 generalize l.length = ll at *
 by_cases gS : s.toList = []
 case pos =>
  cases gN : (n != 0) with
  | true =>
   go_enter Tryz.func27, Tryz.ntmps27
   go_wp2_with fail
   go_ret
   exact ⟨by first | rfl | (simp [*]; done) | (simp_all; done) | (simp [*]; omega) | (simp_all; omega) | (simp [*]; intros; exfalso; omega) | (simp_all; intros; exfalso; omega), gA⟩
  | false =>
   by_cases gB : 0 < bl
   case pos =>
    go_enter Tryz.func27, Tryz.ntmps27
    go_wp2_with fail
    go_ret
    exact ⟨by first | rfl | (simp [*]; done) | (simp_all; done) | (simp [*]; omega) | (simp_all; omega) | (simp [*]; intros; exfalso; omega) | (simp_all; intros; exfalso; omega), gA⟩
   by_cases q6 : ll = 0
   case neg =>
    go_enter Tryz.func27, Tryz.ntmps27
    go_wp2_with fail
    go_ret
    exact ⟨by first | rfl | (simp [*]; done) | (simp_all; done) | (simp [*]; omega) | (simp_all; omega) | (simp [*]; intros; exfalso; omega) | (simp_all; intros; exfalso; omega), gA⟩
   subst q6
   cases r1
   all_goals
    go_enter Tryz.func27, Tryz.ntmps27
    go_wp2_with fail
    refine (hc1.out (by first | trivial | assumption) _ (gA)).mono ?_
    rintro e w1 ⟨rfl, g1⟩
    have G1 := (gA).trans g1
    have x0_1 := cell_gr m0 g1 (fun e => e)
    have x1_1 := cell_gr m1 g1 (fun e => e)
    have x2_1 := cell_gr m2 g1 (fun e => e)
    have x3_1 := cell_gr m3 g1 (fun e => e)
    have x4_1 := cell_gr m4 g1 (fun e => e)
    have hz1 : W.heap.size < w1.heap.size := World.block_lt_of_cell? _ _ x0_1
    go_wp2_with fail
    go_ret
    exact ⟨by first | rfl | (simp [*]; done) | (simp_all; done) | (simp [*]; omega) | (simp_all; omega) | (simp [*]; intros; exfalso; omega) | (simp_all; intros; exfalso; omega), G1⟩
 case neg =>
  cases gN : (n != 0) with
  | true =>
   go_enter Tryz.func27, Tryz.ntmps27
   go_wp2_with fail
   go_ret
   exact ⟨by first | rfl | (simp [*]; done) | (simp_all; done) | (simp [*]; omega) | (simp_all; omega) | (simp [*]; intros; exfalso; omega) | (simp_all; intros; exfalso; omega), gA⟩
  | false =>
   by_cases gB : 0 < bl
   case pos =>
    go_enter Tryz.func27, Tryz.ntmps27
    go_wp2_with fail
    go_ret
    exact ⟨by first | rfl | (simp [*]; done) | (simp_all; done) | (simp [*]; omega) | (simp_all; omega) | (simp [*]; intros; exfalso; omega) | (simp_all; intros; exfalso; omega), gA⟩
   by_cases q6 : ll = 0
   case neg =>
    go_enter Tryz.func27, Tryz.ntmps27
    go_wp2_with fail
    go_ret
    exact ⟨by first | rfl | (simp [*]; done) | (simp_all; done) | (simp [*]; omega) | (simp_all; omega) | (simp [*]; intros; exfalso; omega) | (simp_all; intros; exfalso; omega), gA⟩
   subst q6
   cases r1
   case true =>
    go_enter Tryz.func27, Tryz.ntmps27
    go_wp2_with fail
    refine (hc1.out (by first | trivial | assumption) _ (gA)).mono ?_
    rintro e w1 ⟨rfl, g1⟩
    have G1 := (gA).trans g1
    have x0_1 := cell_gr m0 g1 (fun e => e)
    have x1_1 := cell_gr m1 g1 (fun e => e)
    have x2_1 := cell_gr m2 g1 (fun e => e)
    have x3_1 := cell_gr m3 g1 (fun e => e)
    have x4_1 := cell_gr m4 g1 (fun e => e)
    have hz1 : W.heap.size < w1.heap.size := World.block_lt_of_cell? _ _ x0_1
    go_wp2_with fail
    go_ret
    exact ⟨by first | rfl | (simp [*]; done) | (simp_all; done) | (simp [*]; omega) | (simp_all; omega) | (simp [*]; intros; exfalso; omega) | (simp_all; intros; exfalso; omega), G1⟩
   cases q95 : (s.toList == [95])
   all_goals
    go_enter Tryz.func27, Tryz.ntmps27
    go_wp2_with fail
    refine (hc1.out (by first | trivial | assumption) _ (gA)).mono ?_
    rintro e w1 ⟨rfl, g1⟩
    have G1 := (gA).trans g1
    have x0_1 := cell_gr m0 g1 (fun e => e)
    have x1_1 := cell_gr m1 g1 (fun e => e)
    have x2_1 := cell_gr m2 g1 (fun e => e)
    have x3_1 := cell_gr m3 g1 (fun e => e)
    have x4_1 := cell_gr m4 g1 (fun e => e)
    have hz1 : W.heap.size < w1.heap.size := World.block_lt_of_cell? _ _ x0_1
    go_wp2_with fail
    go_ret
    exact ⟨by first | rfl | (simp [*]; done) | (simp_all; done) | (simp [*]; omega) | (simp_all; omega) | (simp [*]; intros; exfalso; omega) | (simp_all; intros; exfalso; omega), G1⟩
end Go.Proofs.YtjedbfbolifjjaaGreatDoor

namespace Go.Proofs.YtjedbfbolifjjaaGreatDoor
open Go.RowKit Go.Maps
variable {W W' : World}
set_option maxRecDepth 100000 in
set_option maxHeartbeats 1600000 in
theorem fmE (k : Int) (hk : k < 1 ∨ 18 < k) (s : ByteArray) (n : Int) (b : List Int) (l : List Tr) : FmIs k s n b l false := by
 intro N W ba bc la lc hrow hN
 have gA := Gr.alloc W (.cells #[.int .i64 k, .string s, .int .i64 n, .slice ba b.length bc, .slice la l.length lc] 25) (fun _ => False)
 obtain ⟨⟨m0, m1, m2, m3, m4⟩, _⟩ := five_cells (heap_alloc_new W (.cells #[.int .i64 k, .string s, .int .i64 n, .slice ba b.length bc, .slice la l.length lc] 25))
 clear hrow
 by_cases h1 : k < 1
 ·
  have d1 : decide (k < 1) = true := by simpa using h1
  clear h1 hk
  go_enter Tryz.func27, Tryz.ntmps27
  go_wp2_with fail
  go_ret
  exact ⟨rfl, gA⟩
 ·
  have d1 : decide (k < 1) = false := by simpa using h1
  have d2 : decide (18 < k) = true := by simp; omega
  clear h1 hk
  go_enter Tryz.func27, Tryz.ntmps27
  go_wp2_with fail
  go_ret
  exact ⟨rfl, gA⟩
end Go.Proofs.YtjedbfbolifjjaaGreatDoor

namespace Go.Proofs.YtjedbfbolifjjaaGreatDoor
open Go.RowKit Go.Maps
variable {W W' : World}
set_option maxRecDepth 100000 in
set_option maxHeartbeats 3200000 in
theorem fm8_11 (s : ByteArray) (q0 : (s.toList == [43]) = false) (q1 : (s.toList == [45]) = false) (q2 : (s.toList == [42]) = false) (q3 : (s.toList == [47]) = false) (q4 : (s.toList == [114, 101, 109]) = false) (q5 : (s.toList == [61, 61]) = false) (q6 : (s.toList == [47, 61]) = false) (q7 : (s.toList == [60]) = false) (q8 : (s.toList == [62]) = false) (q9 : (s.toList == [61, 60]) = false) (q10 : (s.toList == [62, 61]) = false) (b : List Int) (hb0 : ¬ 0 < b.length) (l : List Tr) (hl : l.length ≤ 4611686018427387904) : FmIs 8 s 0 b l (false) := by
 intro N W ba bc la lc hrow hN
 have gA := Gr.alloc W (.cells #[.int .i64 8, .string s, .int .i64 0, .slice ba b.length bc, .slice la l.length lc] 25) (fun _ => False)
 obtain ⟨⟨m0, m1, m2, m3, m4⟩, _⟩ := five_cells (heap_alloc_new W (.cells #[.int .i64 8, .string s, .int .i64 0, .slice ba b.length bc, .slice la l.length lc] 25))
 have hlI : (l.length : Int) ≤ 4611686018427387904 := by omega
 have hl0 : (0 : Int) ≤ (l.length : Int) := by omega
 have hbN : (0 : Int) ≤ (b.length : Int) := by omega
 clear hrow hl
 generalize b.length = bl at *
 generalize l.length = ll at *
 by_cases gS : s.toList = []
 case pos =>
  clear q0 q1 q2 q3 q4 q5 q6 q7 q8 q9 q10
  go_enter Tryz.func27, Tryz.ntmps27
  go_wp2_with fail
  go_ret
  exact ⟨rfl, gA⟩
 case neg =>
  have gS2 : s.toList.isEmpty = false := by simpa using gS
  go_enter Tryz.func27, Tryz.ntmps27
  go_wp2_with fail
  go_ret
  exact ⟨rfl, gA⟩
end Go.Proofs.YtjedbfbolifjjaaGreatDoor
