/-
  The reference's Formed: further kinds.
-/
import Derived.Test.YtjedbfbolifjjaaGreatDoorMN
set_option linter.unusedVariables false
set_option linter.unusedSimpArgs false
namespace Go.Proofs.YtjedbfbolifjjaaGreatDoor
open Go.RowKit Go.Maps
variable {W W' : World}
set_option maxRecDepth 100000 in
set_option maxHeartbeats 1600000 in
theorem fm11 (s : ByteArray) (n : Int) (b : List Int) (l : List Tr) (hl : l.length ≤ 4611686018427387904) : FmIs 11 s n b l (!(n != 0) && !decide (0 < (b.length : Int)) && (isName s && !wrd s) && smV 1 13 (0) (l.length) l) := by
 intro N W ba bc la lc hrow hN
 have gA := Gr.alloc W (.cells #[.int .i64 11, .string s, .int .i64 n, .slice ba b.length bc, .slice la l.length lc] 25) (fun _ => False)
 obtain ⟨⟨m0, m1, m2, m3, m4⟩, _⟩ := five_cells (heap_alloc_new W (.cells #[.int .i64 11, .string s, .int .i64 n, .slice ba b.length bc, .slice la l.length lc] 25))
 have hlI : (l.length : Int) ≤ 4611686018427387904 := by omega
 have hl0 : (0 : Int) ≤ (l.length : Int) := by omega
 have hss : (s.toList == []) = !(s.toList != []) := by simp [bne]
 have hc1 : Hid (True → ∀ w, Gr (fun _ => False) W w → Calls Tryz.prog 58 #[.string s] w fun e w' => e = .returned (.bool (isName s && !wrd s)) ∧ Gr (fun _ => False) w w') := fun _ w gw => (rnamed_c s w).mono fun e w' ⟨h1, h2⟩ => ⟨h1, by rw [h2]; exact Gr.refl _ _⟩
 have hc2 : Hid (True → ∀ w, Gr (fun _ => False) W w → Calls Tryz.prog 60 #[trv 11 s n (.slice ba b.length bc) (.slice la l.length lc), .int .i64 0, .int .i64 (l.length : Int), .int .i64 1, .int .i64 13] w fun e w' => e = .returned (.bool (smV 1 13 (0) (l.length) l)) ∧ Gr (fun _ => False) w w') := fun hq w gw => by
  have h1 : 0 ≤ l.length := by first | omega | omega
  have h2 : l.length ≤ l.length := by first | omega | omega
  have := rsome_c N w 11 s n _ ⟨ba, b.length, bc, rfl⟩ la lc l (0) (l.length) 1 13 (hrow.g0 gw) (Nat.le_trans hN gw.size) h1 h2 hl
  exact this
 have hbN : (0 : Int) ≤ (b.length : Int) := by omega
 generalize (isName s && !wrd s) = r1 at hc1 ⊢
 generalize smV 1 13 (0) (l.length) l = r2 at hc2 ⊢
 clear hrow hl hss
 generalize b.length = bl at *
 generalize l.length = ll at *
 by_cases gS : s.toList = []
 all_goals
  cases gN : (n != 0) with
  | true =>
   go_enter Tryz.func27, Tryz.ntmps27
   go_wp2_with fail
   go_ret
   exact ⟨by first | rfl | (simp [*]; done) | (simp_all; done) | (simp [*]; omega) | (simp_all; omega) | (simp [*]; intros; exfalso; omega) | (simp_all; intros; exfalso; omega), gA⟩
  | false =>
   by_cases gB : 0 < bl
   case pos =>
    go_enter Tryz.func27, Tryz.ntmps27
    go_wp2_with fail
    go_ret
    exact ⟨by first | rfl | (simp [*]; done) | (simp_all; done) | (simp [*]; omega) | (simp_all; omega) | (simp [*]; intros; exfalso; omega) | (simp_all; intros; exfalso; omega), gA⟩
   cases r1 with
   | false =>
    go_enter Tryz.func27, Tryz.ntmps27
    go_wp2_with fail
    refine (hc1.out (by first | trivial | assumption) _ (gA)).mono ?_
    rintro e w1 ⟨rfl, g1⟩
    have G1 := (gA).trans g1
    have x0_1 := cell_gr m0 g1 (fun e => e)
    have x1_1 := cell_gr m1 g1 (fun e => e)
    have x2_1 := cell_gr m2 g1 (fun e => e)
    have x3_1 := cell_gr m3 g1 (fun e => e)
    have x4_1 := cell_gr m4 g1 (fun e => e)
    have hz1 : W.heap.size < w1.heap.size := World.block_lt_of_cell? _ _ x0_1
    go_wp2_with fail
    go_ret
    exact ⟨by first | rfl | (simp [*]; done) | (simp_all; done) | (simp [*]; omega) | (simp_all; omega) | (simp [*]; intros; exfalso; omega) | (simp_all; intros; exfalso; omega), G1⟩
   | true =>
    go_enter Tryz.func27, Tryz.ntmps27
    go_wp2_with fail
    refine (hc1.out (by first | trivial | assumption) _ (gA)).mono ?_
    rintro e w1 ⟨rfl, g1⟩
    have G1 := (gA).trans g1
    have x0_1 := cell_gr m0 g1 (fun e => e)
    have x1_1 := cell_gr m1 g1 (fun e => e)
    have x2_1 := cell_gr m2 g1 (fun e => e)
    have x3_1 := cell_gr m3 g1 (fun e => e)
    have x4_1 := cell_gr m4 g1 (fun e => e)
    have hz1 : W.heap.size < w1.heap.size := World.block_lt_of_cell? _ _ x0_1
    go_wp2_with fail
    refine (hc2.out (by first | trivial | assumption) _ (G1)).mono ?_
    rintro e w2 ⟨rfl, g2⟩
    have G2 := (G1).trans g2
    have x0_2 := cell_gr x0_1 g2 (fun e => e)
    have x1_2 := cell_gr x1_1 g2 (fun e => e)
    have x2_2 := cell_gr x2_1 g2 (fun e => e)
    have x3_2 := cell_gr x3_1 g2 (fun e => e)
    have x4_2 := cell_gr x4_1 g2 (fun e => e)
    have hz2 : W.heap.size < w2.heap.size := World.block_lt_of_cell? _ _ x0_2
    go_wp2_with fail
    go_ret
    exact ⟨by first | rfl | (simp [*]; done) | (simp_all; done) | (simp [*]; omega) | (simp_all; omega) | (simp [*]; intros; exfalso; omega) | (simp_all; intros; exfalso; omega), G2⟩
set_option maxRecDepth 100000 in
set_option maxHeartbeats 1600000 in
theorem fm12 (s : ByteArray) (n : Int) (b : List Int) (l : List Tr) (hl : l.length ≤ 4611686018427387904) : FmIs 12 s n b l (!(n != 0) && !decide (0 < (b.length : Int)) && !(s.toList != []) && decide (2 ≤ (l.length : Int)) && smV 1 13 (0) (1) l && smV 15 15 (1) (l.length) l) := by
 intro N W ba bc la lc hrow hN
 have gA := Gr.alloc W (.cells #[.int .i64 12, .string s, .int .i64 n, .slice ba b.length bc, .slice la l.length lc] 25) (fun _ => False)
 obtain ⟨⟨m0, m1, m2, m3, m4⟩, _⟩ := five_cells (heap_alloc_new W (.cells #[.int .i64 12, .string s, .int .i64 n, .slice ba b.length bc, .slice la l.length lc] 25))
 have hlI : (l.length : Int) ≤ 4611686018427387904 := by omega
 have hl0 : (0 : Int) ≤ (l.length : Int) := by omega
 have hss : (s.toList == []) = !(s.toList != []) := by simp [bne]
 have hc1 : Hid (2 ≤ (l.length : Int) → ∀ w, Gr (fun _ => False) W w → Calls Tryz.prog 60 #[trv 12 s n (.slice ba b.length bc) (.slice la l.length lc), .int .i64 0, .int .i64 1, .int .i64 1, .int .i64 13] w fun e w' => e = .returned (.bool (smV 1 13 (0) (1) l)) ∧ Gr (fun _ => False) w w') := fun hq w gw => by
  have h1 : 0 ≤ 1 := by first | omega | omega
  have h2 : 1 ≤ l.length := by first | omega | omega
  have := rsome_c N w 12 s n _ ⟨ba, b.length, bc, rfl⟩ la lc l (0) (1) 1 13 (hrow.g0 gw) (Nat.le_trans hN gw.size) h1 h2 hl
  exact this
 have hc2 : Hid (2 ≤ (l.length : Int) → ∀ w, Gr (fun _ => False) W w → Calls Tryz.prog 60 #[trv 12 s n (.slice ba b.length bc) (.slice la l.length lc), .int .i64 1, .int .i64 (l.length : Int), .int .i64 15, .int .i64 15] w fun e w' => e = .returned (.bool (smV 15 15 (1) (l.length) l)) ∧ Gr (fun _ => False) w w') := fun hq w gw => by
  have h1 : 1 ≤ l.length := by first | omega | omega
  have h2 : l.length ≤ l.length := by first | omega | omega
  have := rsome_c N w 12 s n _ ⟨ba, b.length, bc, rfl⟩ la lc l (1) (l.length) 15 15 (hrow.g0 gw) (Nat.le_trans hN gw.size) h1 h2 hl
  exact this
 have hbN : (0 : Int) ≤ (b.length : Int) := by omega
 generalize smV 1 13 (0) (1) l = r1 at hc1 ⊢
 generalize smV 15 15 (1) (l.length) l = r2 at hc2 ⊢
 clear hrow hl hss
 generalize b.length = bl at *
 generalize l.length = ll at *
 cases gN : (n != 0) with
 | true =>
  go_enter Tryz.func27, Tryz.ntmps27
  go_wp2_with fail
  go_ret
  exact ⟨by first | rfl | (simp [*]; done) | (simp_all; done) | (simp [*]; omega) | (simp_all; omega) | (simp [*]; intros; exfalso; omega) | (simp_all; intros; exfalso; omega), gA⟩
 | false =>
  by_cases gB : 0 < bl
  case pos =>
   go_enter Tryz.func27, Tryz.ntmps27
   go_wp2_with fail
   go_ret
   exact ⟨by first | rfl | (simp [*]; done) | (simp_all; done) | (simp [*]; omega) | (simp_all; omega) | (simp [*]; intros; exfalso; omega) | (simp_all; intros; exfalso; omega), gA⟩
  by_cases gS : s.toList = []
  case neg =>
   have gS2 : s.toList.isEmpty = false := by simpa using gS
   go_enter Tryz.func27, Tryz.ntmps27
   go_wp2_with fail
   go_ret
   exact ⟨by first | rfl | (simp [*]; done) | (simp_all; done) | (simp [*]; omega) | (simp_all; omega) | (simp [*]; intros; exfalso; omega) | (simp_all; intros; exfalso; omega), gA⟩
  by_cases q4 : 2 ≤ (ll : Int)
  case neg =>
   have q4n : ¬ 2 ≤ ll := by omega
   go_enter Tryz.func27, Tryz.ntmps27
   go_wp2_with fail
   go_ret
   exact ⟨by first | rfl | (simp [*]; done) | (simp_all; done) | (simp [*]; omega) | (simp_all; omega) | (simp [*]; intros; exfalso; omega) | (simp_all; intros; exfalso; omega), gA⟩
  have q4n : 2 ≤ ll := by omega
  cases r1 with
  | false =>
   go_enter Tryz.func27, Tryz.ntmps27
   go_wp2_with fail
   refine (hc1.out (by first | trivial | assumption) _ (gA)).mono ?_
   rintro e w1 ⟨rfl, g1⟩
   have G1 := (gA).trans g1
   have x0_1 := cell_gr m0 g1 (fun e => e)
   have x1_1 := cell_gr m1 g1 (fun e => e)
   have x2_1 := cell_gr m2 g1 (fun e => e)
   have x3_1 := cell_gr m3 g1 (fun e => e)
   have x4_1 := cell_gr m4 g1 (fun e => e)
   have hz1 : W.heap.size < w1.heap.size := World.block_lt_of_cell? _ _ x0_1
   go_wp2_with fail
   go_ret
   exact ⟨by first | rfl | (simp [*]; done) | (simp_all; done) | (simp [*]; omega) | (simp_all; omega) | (simp [*]; intros; exfalso; omega) | (simp_all; intros; exfalso; omega), G1⟩
  | true =>
   go_enter Tryz.func27, Tryz.ntmps27
   go_wp2_with fail
   refine (hc1.out (by first | trivial | assumption) _ (gA)).mono ?_
   rintro e w1 ⟨rfl, g1⟩
   have G1 := (gA).trans g1
   have x0_1 := cell_gr m0 g1 (fun e => e)
   have x1_1 := cell_gr m1 g1 (fun e => e)
   have x2_1 := cell_gr m2 g1 (fun e => e)
   have x3_1 := cell_gr m3 g1 (fun e => e)
   have x4_1 := cell_gr m4 g1 (fun e => e)
   have hz1 : W.heap.size < w1.heap.size := World.block_lt_of_cell? _ _ x0_1
   go_wp2_with fail
   refine (hc2.out (by first | trivial | assumption) _ (G1)).mono ?_
   rintro e w2 ⟨rfl, g2⟩
   have G2 := (G1).trans g2
   have x0_2 := cell_gr x0_1 g2 (fun e => e)
   have x1_2 := cell_gr x1_1 g2 (fun e => e)
   have x2_2 := cell_gr x2_1 g2 (fun e => e)
   have x3_2 := cell_gr x3_1 g2 (fun e => e)
   have x4_2 := cell_gr x4_1 g2 (fun e => e)
   have hz2 : W.heap.size < w2.heap.size := World.block_lt_of_cell? _ _ x0_2
   go_wp2_with fail
   go_ret
   exact ⟨by first | rfl | (simp [*]; done) | (simp_all; done) | (simp [*]; omega) | (simp_all; omega) | (simp [*]; intros; exfalso; omega) | (simp_all; intros; exfalso; omega), G2⟩
set_option maxRecDepth 100000 in
set_option maxHeartbeats 1600000 in
theorem fm13 (s : ByteArray) (n : Int) (b : List Int) (l : List Tr) (hl : l.length ≤ 4611686018427387904) : FmIs 13 s n b l (!(n != 0) && !decide (0 < (b.length : Int)) && !(s.toList != []) && decide (1 ≤ (l.length : Int)) && smV 15 15 (0) (l.length - 1) l && smV 14 15 (l.length - 1) (l.length) l) := by
 intro N W ba bc la lc hrow hN
 have gA := Gr.alloc W (.cells #[.int .i64 13, .string s, .int .i64 n, .slice ba b.length bc, .slice la l.length lc] 25) (fun _ => False)
 obtain ⟨⟨m0, m1, m2, m3, m4⟩, _⟩ := five_cells (heap_alloc_new W (.cells #[.int .i64 13, .string s, .int .i64 n, .slice ba b.length bc, .slice la l.length lc] 25))
 have hlI : (l.length : Int) ≤ 4611686018427387904 := by omega
 have hl0 : (0 : Int) ≤ (l.length : Int) := by omega
 have hss : (s.toList == []) = !(s.toList != []) := by simp [bne]
 have hc1 : Hid (1 ≤ (l.length : Int) → ∀ w, Gr (fun _ => False) W w → Calls Tryz.prog 60 #[trv 13 s n (.slice ba b.length bc) (.slice la l.length lc), .int .i64 0, .int .i64 ((l.length : Int) - 1), .int .i64 15, .int .i64 15] w fun e w' => e = .returned (.bool (smV 15 15 (0) (l.length - 1) l)) ∧ Gr (fun _ => False) w w') := fun hq w gw => by
  have h1 : 0 ≤ l.length - 1 := by first | omega | omega
  have h2 : l.length - 1 ≤ l.length := by first | omega | omega
  have := rsome_c N w 13 s n _ ⟨ba, b.length, bc, rfl⟩ la lc l (0) (l.length - 1) 15 15 (hrow.g0 gw) (Nat.le_trans hN gw.size) h1 h2 hl
  have hp : 1 ≤ l.length := by omega
  rw [show ((l.length - 1 : Nat) : Int) = (l.length : Int) - 1 by omega] at this
  exact this
 have hc2 : Hid (1 ≤ (l.length : Int) → ∀ w, Gr (fun _ => False) W w → Calls Tryz.prog 60 #[trv 13 s n (.slice ba b.length bc) (.slice la l.length lc), .int .i64 ((l.length : Int) - 1), .int .i64 (l.length : Int), .int .i64 14, .int .i64 15] w fun e w' => e = .returned (.bool (smV 14 15 (l.length - 1) (l.length) l)) ∧ Gr (fun _ => False) w w') := fun hq w gw => by
  have h1 : l.length - 1 ≤ l.length := by first | omega | omega
  have h2 : l.length ≤ l.length := by first | omega | omega
  have := rsome_c N w 13 s n _ ⟨ba, b.length, bc, rfl⟩ la lc l (l.length - 1) (l.length) 14 15 (hrow.g0 gw) (Nat.le_trans hN gw.size) h1 h2 hl
  have hp : 1 ≤ l.length := by omega
  rw [show ((l.length - 1 : Nat) : Int) = (l.length : Int) - 1 by omega] at this
  exact this
 have hbN : (0 : Int) ≤ (b.length : Int) := by omega
 generalize smV 15 15 (0) (l.length - 1) l = r1 at hc1 ⊢
 generalize smV 14 15 (l.length - 1) (l.length) l = r2 at hc2 ⊢
 clear hrow hl hss
 generalize b.length = bl at *
 generalize l.length = ll at *
 cases gN : (n != 0) with
 | true =>
  go_enter Tryz.func27, Tryz.ntmps27
  go_wp2_with fail
  go_ret
  exact ⟨by first | rfl | (simp [*]; done) | (simp_all; done) | (simp [*]; omega) | (simp_all; omega) | (simp [*]; intros; exfalso; omega) | (simp_all; intros; exfalso; omega), gA⟩
 | false =>
  by_cases gB : 0 < bl
  case pos =>
   go_enter Tryz.func27, Tryz.ntmps27
   go_wp2_with fail
   go_ret
   exact ⟨by first | rfl | (simp [*]; done) | (simp_all; done) | (simp [*]; omega) | (simp_all; omega) | (simp [*]; intros; exfalso; omega) | (simp_all; intros; exfalso; omega), gA⟩
  by_cases gS : s.toList = []
  case neg =>
   have gS2 : s.toList.isEmpty = false := by simpa using gS
   go_enter Tryz.func27, Tryz.ntmps27
   go_wp2_with fail
   go_ret
   exact ⟨by first | rfl | (simp [*]; done) | (simp_all; done) | (simp [*]; omega) | (simp_all; omega) | (simp [*]; intros; exfalso; omega) | (simp_all; intros; exfalso; omega), gA⟩
  by_cases q4 : 1 ≤ (ll : Int)
  case neg =>
   have q4n : ¬ 1 ≤ ll := by omega
   go_enter Tryz.func27, Tryz.ntmps27
   go_wp2_with fail
   go_ret
   exact ⟨by first | rfl | (simp [*]; done) | (simp_all; done) | (simp [*]; omega) | (simp_all; omega) | (simp [*]; intros; exfalso; omega) | (simp_all; intros; exfalso; omega), gA⟩
  have q4n : 1 ≤ ll := by omega
  cases r1 with
  | false =>
   go_enter Tryz.func27, Tryz.ntmps27
   go_wp2_with fail
   refine (hc1.out (by first | trivial | assumption) _ (gA)).mono ?_
   rintro e w1 ⟨rfl, g1⟩
   have G1 := (gA).trans g1
   have x0_1 := cell_gr m0 g1 (fun e => e)
   have x1_1 := cell_gr m1 g1 (fun e => e)
   have x2_1 := cell_gr m2 g1 (fun e => e)
   have x3_1 := cell_gr m3 g1 (fun e => e)
   have x4_1 := cell_gr m4 g1 (fun e => e)
   have hz1 : W.heap.size < w1.heap.size := World.block_lt_of_cell? _ _ x0_1
   go_wp2_with fail
   go_ret
   exact ⟨by first | rfl | (simp [*]; done) | (simp_all; done) | (simp [*]; omega) | (simp_all; omega) | (simp [*]; intros; exfalso; omega) | (simp_all; intros; exfalso; omega), G1⟩
  | true =>
   go_enter Tryz.func27, Tryz.ntmps27
   go_wp2_with fail
   refine (hc1.out (by first | trivial | assumption) _ (gA)).mono ?_
   rintro e w1 ⟨rfl, g1⟩
   have G1 := (gA).trans g1
   have x0_1 := cell_gr m0 g1 (fun e => e)
   have x1_1 := cell_gr m1 g1 (fun e => e)
   have x2_1 := cell_gr m2 g1 (fun e => e)
   have x3_1 := cell_gr m3 g1 (fun e => e)
   have x4_1 := cell_gr m4 g1 (fun e => e)
   have hz1 : W.heap.size < w1.heap.size := World.block_lt_of_cell? _ _ x0_1
   go_wp2_with fail
   refine (hc2.out (by first | trivial | assumption) _ (G1)).mono ?_
   rintro e w2 ⟨rfl, g2⟩
   have G2 := (G1).trans g2
   have x0_2 := cell_gr x0_1 g2 (fun e => e)
   have x1_2 := cell_gr x1_1 g2 (fun e => e)
   have x2_2 := cell_gr x2_1 g2 (fun e => e)
   have x3_2 := cell_gr x3_1 g2 (fun e => e)
   have x4_2 := cell_gr x4_1 g2 (fun e => e)
   have hz2 : W.heap.size < w2.heap.size := World.block_lt_of_cell? _ _ x0_2
   go_wp2_with fail
   go_ret
   exact ⟨by first | rfl | (simp [*]; done) | (simp_all; done) | (simp [*]; omega) | (simp_all; omega) | (simp [*]; intros; exfalso; omega) | (simp_all; intros; exfalso; omega), G2⟩
set_option maxRecDepth 100000 in
set_option maxHeartbeats 1600000 in
theorem fm14 (s : ByteArray) (n : Int) (b : List Int) (l : List Tr) (hl : l.length ≤ 4611686018427387904) : FmIs 14 s n b l (!(n != 0) && !decide (0 < (b.length : Int)) && !(s.toList != []) && ((l.length : Int) == 2) && smV 1 13 (0) (1) l && smV 16 16 (1) (2) l) := by
 intro N W ba bc la lc hrow hN
 have gA := Gr.alloc W (.cells #[.int .i64 14, .string s, .int .i64 n, .slice ba b.length bc, .slice la l.length lc] 25) (fun _ => False)
 obtain ⟨⟨m0, m1, m2, m3, m4⟩, _⟩ := five_cells (heap_alloc_new W (.cells #[.int .i64 14, .string s, .int .i64 n, .slice ba b.length bc, .slice la l.length lc] 25))
 have hlI : (l.length : Int) ≤ 4611686018427387904 := by omega
 have hl0 : (0 : Int) ≤ (l.length : Int) := by omega
 have hss : (s.toList == []) = !(s.toList != []) := by simp [bne]
 have hc1 : Hid ((l.length : Int) = 2 → ∀ w, Gr (fun _ => False) W w → Calls Tryz.prog 60 #[trv 14 s n (.slice ba b.length bc) (.slice la l.length lc), .int .i64 0, .int .i64 1, .int .i64 1, .int .i64 13] w fun e w' => e = .returned (.bool (smV 1 13 (0) (1) l)) ∧ Gr (fun _ => False) w w') := fun hq w gw => by
  have h1 : 0 ≤ 1 := by first | omega | omega
  have h2 : 1 ≤ l.length := by first | omega | omega
  have := rsome_c N w 14 s n _ ⟨ba, b.length, bc, rfl⟩ la lc l (0) (1) 1 13 (hrow.g0 gw) (Nat.le_trans hN gw.size) h1 h2 hl
  exact this
 have hc2 : Hid ((l.length : Int) = 2 → ∀ w, Gr (fun _ => False) W w → Calls Tryz.prog 60 #[trv 14 s n (.slice ba b.length bc) (.slice la l.length lc), .int .i64 1, .int .i64 2, .int .i64 16, .int .i64 16] w fun e w' => e = .returned (.bool (smV 16 16 (1) (2) l)) ∧ Gr (fun _ => False) w w') := fun hq w gw => by
  have h1 : 1 ≤ 2 := by first | omega | omega
  have h2 : 2 ≤ l.length := by first | omega | omega
  have := rsome_c N w 14 s n _ ⟨ba, b.length, bc, rfl⟩ la lc l (1) (2) 16 16 (hrow.g0 gw) (Nat.le_trans hN gw.size) h1 h2 hl
  exact this
 have hbN : (0 : Int) ≤ (b.length : Int) := by omega
 generalize smV 1 13 (0) (1) l = r1 at hc1 ⊢
 generalize smV 16 16 (1) (2) l = r2 at hc2 ⊢
 clear hrow hl hss
 generalize b.length = bl at *
 generalize l.length = ll at *
 cases gN : (n != 0) with
 | true =>
  go_enter Tryz.func27, Tryz.ntmps27
  go_wp2_with fail
  go_ret
  exact ⟨by first | rfl | (simp [*]; done) | (simp_all; done) | (simp [*]; omega) | (simp_all; omega) | (simp [*]; intros; exfalso; omega) | (simp_all; intros; exfalso; omega), gA⟩
 | false =>
  by_cases gB : 0 < bl
  case pos =>
   go_enter Tryz.func27, Tryz.ntmps27
   go_wp2_with fail
   go_ret
   exact ⟨by first | rfl | (simp [*]; done) | (simp_all; done) | (simp [*]; omega) | (simp_all; omega) | (simp [*]; intros; exfalso; omega) | (simp_all; intros; exfalso; omega), gA⟩
  by_cases gS : s.toList = []
  case neg =>
   have gS2 : s.toList.isEmpty = false := by simpa using gS
   go_enter Tryz.func27, Tryz.ntmps27
   go_wp2_with fail
   go_ret
   exact ⟨by first | rfl | (simp [*]; done) | (simp_all; done) | (simp [*]; omega) | (simp_all; omega) | (simp [*]; intros; exfalso; omega) | (simp_all; intros; exfalso; omega), gA⟩
  by_cases q4 : (ll : Int) = 2
  case neg =>
   go_enter Tryz.func27, Tryz.ntmps27
   go_wp2_with fail
   go_ret
   exact ⟨by first | rfl | (simp [*]; done) | (simp_all; done) | (simp [*]; omega) | (simp_all; omega) | (simp [*]; intros; exfalso; omega) | (simp_all; intros; exfalso; omega), gA⟩
  cases r1 with
  | false =>
   go_enter Tryz.func27, Tryz.ntmps27
   go_wp2_with fail
   refine (hc1.out (by first | trivial | assumption) _ (gA)).mono ?_
   rintro e w1 ⟨rfl, g1⟩
   have G1 := (gA).trans g1
   have x0_1 := cell_gr m0 g1 (fun e => e)
   have x1_1 := cell_gr m1 g1 (fun e => e)
   have x2_1 := cell_gr m2 g1 (fun e => e)
   have x3_1 := cell_gr m3 g1 (fun e => e)
   have x4_1 := cell_gr m4 g1 (fun e => e)
   have hz1 : W.heap.size < w1.heap.size := World.block_lt_of_cell? _ _ x0_1
   go_wp2_with fail
   go_ret
   exact ⟨by first | rfl | (simp [*]; done) | (simp_all; done) | (simp [*]; omega) | (simp_all; omega) | (simp [*]; intros; exfalso; omega) | (simp_all; intros; exfalso; omega), G1⟩
  | true =>
   go_enter Tryz.func27, Tryz.ntmps27
   go_wp2_with fail
   refine (hc1.out (by first | trivial | assumption) _ (gA)).mono ?_
   rintro e w1 ⟨rfl, g1⟩
   have G1 := (gA).trans g1
   have x0_1 := cell_gr m0 g1 (fun e => e)
   have x1_1 := cell_gr m1 g1 (fun e => e)
   have x2_1 := cell_gr m2 g1 (fun e => e)
   have x3_1 := cell_gr m3 g1 (fun e => e)
   have x4_1 := cell_gr m4 g1 (fun e => e)
   have hz1 : W.heap.size < w1.heap.size := World.block_lt_of_cell? _ _ x0_1
   go_wp2_with fail
   refine (hc2.out (by first | trivial | assumption) _ (G1)).mono ?_
   rintro e w2 ⟨rfl, g2⟩
   have G2 := (G1).trans g2
   have x0_2 := cell_gr x0_1 g2 (fun e => e)
   have x1_2 := cell_gr x1_1 g2 (fun e => e)
   have x2_2 := cell_gr x2_1 g2 (fun e => e)
   have x3_2 := cell_gr x3_1 g2 (fun e => e)
   have x4_2 := cell_gr x4_1 g2 (fun e => e)
   have hz2 : W.heap.size < w2.heap.size := World.block_lt_of_cell? _ _ x0_2
   go_wp2_with fail
   go_ret
   exact ⟨by first | rfl | (simp [*]; done) | (simp_all; done) | (simp [*]; omega) | (simp_all; omega) | (simp [*]; intros; exfalso; omega) | (simp_all; intros; exfalso; omega), G2⟩
set_option maxRecDepth 100000 in
set_option maxHeartbeats 1600000 in
theorem fm15 (s : ByteArray) (n : Int) (b : List Int) (l : List Tr) (hl : l.length ≤ 4611686018427387904) : FmIs 15 s n b l (!(n != 0) && !decide (0 < (b.length : Int)) && !(s.toList != []) && ((l.length : Int) == 2) && smV 1 13 (0) (1) l && smV 16 16 (1) (2) l) := by
 intro N W ba bc la lc hrow hN
 have gA := Gr.alloc W (.cells #[.int .i64 15, .string s, .int .i64 n, .slice ba b.length bc, .slice la l.length lc] 25) (fun _ => False)
 obtain ⟨⟨m0, m1, m2, m3, m4⟩, _⟩ := five_cells (heap_alloc_new W (.cells #[.int .i64 15, .string s, .int .i64 n, .slice ba b.length bc, .slice la l.length lc] 25))
 have hlI : (l.length : Int) ≤ 4611686018427387904 := by omega
 have hl0 : (0 : Int) ≤ (l.length : Int) := by omega
 have hss : (s.toList == []) = !(s.toList != []) := by simp [bne]
 have hc1 : Hid ((l.length : Int) = 2 → ∀ w, Gr (fun _ => False) W w → Calls Tryz.prog 60 #[trv 15 s n (.slice ba b.length bc) (.slice la l.length lc), .int .i64 0, .int .i64 1, .int .i64 1, .int .i64 13] w fun e w' => e = .returned (.bool (smV 1 13 (0) (1) l)) ∧ Gr (fun _ => False) w w') := fun hq w gw => by
  have h1 : 0 ≤ 1 := by first | omega | omega
  have h2 : 1 ≤ l.length := by first | omega | omega
  have := rsome_c N w 15 s n _ ⟨ba, b.length, bc, rfl⟩ la lc l (0) (1) 1 13 (hrow.g0 gw) (Nat.le_trans hN gw.size) h1 h2 hl
  exact this
 have hc2 : Hid ((l.length : Int) = 2 → ∀ w, Gr (fun _ => False) W w → Calls Tryz.prog 60 #[trv 15 s n (.slice ba b.length bc) (.slice la l.length lc), .int .i64 1, .int .i64 2, .int .i64 16, .int .i64 16] w fun e w' => e = .returned (.bool (smV 16 16 (1) (2) l)) ∧ Gr (fun _ => False) w w') := fun hq w gw => by
  have h1 : 1 ≤ 2 := by first | omega | omega
  have h2 : 2 ≤ l.length := by first | omega | omega
  have := rsome_c N w 15 s n _ ⟨ba, b.length, bc, rfl⟩ la lc l (1) (2) 16 16 (hrow.g0 gw) (Nat.le_trans hN gw.size) h1 h2 hl
  exact this
 have hbN : (0 : Int) ≤ (b.length : Int) := by omega
 generalize smV 1 13 (0) (1) l = r1 at hc1 ⊢
 generalize smV 16 16 (1) (2) l = r2 at hc2 ⊢
 clear hrow hl hss
 generalize b.length = bl at *
 generalize l.length = ll at *
 cases gN : (n != 0) with
 | true =>
  go_enter Tryz.func27, Tryz.ntmps27
  go_wp2_with fail
  go_ret
  exact ⟨by first | rfl | (simp [*]; done) | (simp_all; done) | (simp [*]; omega) | (simp_all; omega) | (simp [*]; intros; exfalso; omega) | (simp_all; intros; exfalso; omega), gA⟩
 | false =>
  by_cases gB : 0 < bl
  case pos =>
   go_enter Tryz.func27, Tryz.ntmps27
   go_wp2_with fail
   go_ret
   exact ⟨by first | rfl | (simp [*]; done) | (simp_all; done) | (simp [*]; omega) | (simp_all; omega) | (simp [*]; intros; exfalso; omega) | (simp_all; intros; exfalso; omega), gA⟩
  by_cases gS : s.toList = []
  case neg =>
   have gS2 : s.toList.isEmpty = false := by simpa using gS
   go_enter Tryz.func27, Tryz.ntmps27
   go_wp2_with fail
   go_ret
   exact ⟨by first | rfl | (simp [*]; done) | (simp_all; done) | (simp [*]; omega) | (simp_all; omega) | (simp [*]; intros; exfalso; omega) | (simp_all; intros; exfalso; omega), gA⟩
  by_cases q4 : (ll : Int) = 2
  case neg =>
   go_enter Tryz.func27, Tryz.ntmps27
   go_wp2_with fail
   go_ret
   exact ⟨by first | rfl | (simp [*]; done) | (simp_all; done) | (simp [*]; omega) | (simp_all; omega) | (simp [*]; intros; exfalso; omega) | (simp_all; intros; exfalso; omega), gA⟩
  cases r1 with
  | false =>
   go_enter Tryz.func27, Tryz.ntmps27
   go_wp2_with fail
   refine (hc1.out (by first | trivial | assumption) _ (gA)).mono ?_
   rintro e w1 ⟨rfl, g1⟩
   have G1 := (gA).trans g1
   have x0_1 := cell_gr m0 g1 (fun e => e)
   have x1_1 := cell_gr m1 g1 (fun e => e)
   have x2_1 := cell_gr m2 g1 (fun e => e)
   have x3_1 := cell_gr m3 g1 (fun e => e)
   have x4_1 := cell_gr m4 g1 (fun e => e)
   have hz1 : W.heap.size < w1.heap.size := World.block_lt_of_cell? _ _ x0_1
   go_wp2_with fail
   go_ret
   exact ⟨by first | rfl | (simp [*]; done) | (simp_all; done) | (simp [*]; omega) | (simp_all; omega) | (simp [*]; intros; exfalso; omega) | (simp_all; intros; exfalso; omega), G1⟩
  | true =>
   go_enter Tryz.func27, Tryz.ntmps27
   go_wp2_with fail
   refine (hc1.out (by first | trivial | assumption) _ (gA)).mono ?_
   rintro e w1 ⟨rfl, g1⟩
   have G1 := (gA).trans g1
   have x0_1 := cell_gr m0 g1 (fun e => e)
   have x1_1 := cell_gr m1 g1 (fun e => e)
   have x2_1 := cell_gr m2 g1 (fun e => e)
   have x3_1 := cell_gr m3 g1 (fun e => e)
   have x4_1 := cell_gr m4 g1 (fun e => e)
   have hz1 : W.heap.size < w1.heap.size := World.block_lt_of_cell? _ _ x0_1
   go_wp2_with fail
   refine (hc2.out (by first | trivial | assumption) _ (G1)).mono ?_
   rintro e w2 ⟨rfl, g2⟩
   have G2 := (G1).trans g2
   have x0_2 := cell_gr x0_1 g2 (fun e => e)
   have x1_2 := cell_gr x1_1 g2 (fun e => e)
   have x2_2 := cell_gr x2_1 g2 (fun e => e)
   have x3_2 := cell_gr x3_1 g2 (fun e => e)
   have x4_2 := cell_gr x4_1 g2 (fun e => e)
   have hz2 : W.heap.size < w2.heap.size := World.block_lt_of_cell? _ _ x0_2
   go_wp2_with fail
   go_ret
   exact ⟨by first | rfl | (simp [*]; done) | (simp_all; done) | (simp [*]; omega) | (simp_all; omega) | (simp [*]; intros; exfalso; omega) | (simp_all; intros; exfalso; omega), G2⟩
set_option maxRecDepth 100000 in
set_option maxHeartbeats 1600000 in
theorem fm16 (s : ByteArray) (n : Int) (b : List Int) (l : List Tr) (hl : l.length ≤ 4611686018427387904) : FmIs 16 s n b l (!(n != 0) && !decide (0 < (b.length : Int)) && !(s.toList != []) && decide (1 ≤ (l.length : Int)) && smV 1 13 (0) (l.length) l) := by
 intro N W ba bc la lc hrow hN
 have gA := Gr.alloc W (.cells #[.int .i64 16, .string s, .int .i64 n, .slice ba b.length bc, .slice la l.length lc] 25) (fun _ => False)
 obtain ⟨⟨m0, m1, m2, m3, m4⟩, _⟩ := five_cells (heap_alloc_new W (.cells #[.int .i64 16, .string s, .int .i64 n, .slice ba b.length bc, .slice la l.length lc] 25))
 have hlI : (l.length : Int) ≤ 4611686018427387904 := by omega
 have hl0 : (0 : Int) ≤ (l.length : Int) := by omega
 have hss : (s.toList == []) = !(s.toList != []) := by simp [bne]
 have hc1 : Hid (True → ∀ w, Gr (fun _ => False) W w → Calls Tryz.prog 60 #[trv 16 s n (.slice ba b.length bc) (.slice la l.length lc), .int .i64 0, .int .i64 (l.length : Int), .int .i64 1, .int .i64 13] w fun e w' => e = .returned (.bool (smV 1 13 (0) (l.length) l)) ∧ Gr (fun _ => False) w w') := fun hq w gw => by
  have h1 : 0 ≤ l.length := by first | omega | omega
  have h2 : l.length ≤ l.length := by first | omega | omega
  have := rsome_c N w 16 s n _ ⟨ba, b.length, bc, rfl⟩ la lc l (0) (l.length) 1 13 (hrow.g0 gw) (Nat.le_trans hN gw.size) h1 h2 hl
  exact this
 have hbN : (0 : Int) ≤ (b.length : Int) := by omega
 generalize smV 1 13 (0) (l.length) l = r1 at hc1 ⊢
 clear hrow hl hss
 generalize b.length = bl at *
 generalize l.length = ll at *
 cases gN : (n != 0) with
 | true =>
  go_enter Tryz.func27, Tryz.ntmps27
  go_wp2_with fail
  go_ret
  exact ⟨by first | rfl | (simp [*]; done) | (simp_all; done) | (simp [*]; omega) | (simp_all; omega) | (simp [*]; intros; exfalso; omega) | (simp_all; intros; exfalso; omega), gA⟩
 | false =>
  by_cases gB : 0 < bl
  case pos =>
   go_enter Tryz.func27, Tryz.ntmps27
   go_wp2_with fail
   go_ret
   exact ⟨by first | rfl | (simp [*]; done) | (simp_all; done) | (simp [*]; omega) | (simp_all; omega) | (simp [*]; intros; exfalso; omega) | (simp_all; intros; exfalso; omega), gA⟩
  by_cases gS : s.toList = []
  case neg =>
   have gS2 : s.toList.isEmpty = false := by simpa using gS
   go_enter Tryz.func27, Tryz.ntmps27
   go_wp2_with fail
   go_ret
   exact ⟨by first | rfl | (simp [*]; done) | (simp_all; done) | (simp [*]; omega) | (simp_all; omega) | (simp [*]; intros; exfalso; omega) | (simp_all; intros; exfalso; omega), gA⟩
  by_cases q4 : 1 ≤ (ll : Int)
  case neg =>
   have q4n : ¬ 1 ≤ ll := by omega
   go_enter Tryz.func27, Tryz.ntmps27
   go_wp2_with fail
   go_ret
   exact ⟨by first | rfl | (simp [*]; done) | (simp_all; done) | (simp [*]; omega) | (simp_all; omega) | (simp [*]; intros; exfalso; omega) | (simp_all; intros; exfalso; omega), gA⟩
  have q4n : 1 ≤ ll := by omega
  go_enter Tryz.func27, Tryz.ntmps27
  go_wp2_with fail
  refine (hc1.out (by first | trivial | assumption) _ (gA)).mono ?_
  rintro e w1 ⟨rfl, g1⟩
  have G1 := (gA).trans g1
  have x0_1 := cell_gr m0 g1 (fun e => e)
  have x1_1 := cell_gr m1 g1 (fun e => e)
  have x2_1 := cell_gr m2 g1 (fun e => e)
  have x3_1 := cell_gr m3 g1 (fun e => e)
  have x4_1 := cell_gr m4 g1 (fun e => e)
  have hz1 : W.heap.size < w1.heap.size := World.block_lt_of_cell? _ _ x0_1
  go_wp2_with fail
  go_ret
  exact ⟨by first | rfl | (simp [*]; done) | (simp_all; done) | (simp [*]; omega) | (simp_all; omega) | (simp [*]; intros; exfalso; omega) | (simp_all; intros; exfalso; omega), G1⟩
set_option maxRecDepth 100000 in
set_option maxHeartbeats 1600000 in
theorem fm17 (s : ByteArray) (n : Int) (b : List Int) (l : List Tr) (hl : l.length ≤ 4611686018427387904) : FmIs 17 s n b l (!(n != 0) && !decide (0 < (b.length : Int)) && decide (1 ≤ (l.length : Int)) && (isName s && !wrd s) && smV 3 3 (0) (l.length - 1) l && smV 16 16 (l.length - 1) (l.length) l) := by
 intro N W ba bc la lc hrow hN
 have gA := Gr.alloc W (.cells #[.int .i64 17, .string s, .int .i64 n, .slice ba b.length bc, .slice la l.length lc] 25) (fun _ => False)
 obtain ⟨⟨m0, m1, m2, m3, m4⟩, _⟩ := five_cells (heap_alloc_new W (.cells #[.int .i64 17, .string s, .int .i64 n, .slice ba b.length bc, .slice la l.length lc] 25))
 have hlI : (l.length : Int) ≤ 4611686018427387904 := by omega
 have hl0 : (0 : Int) ≤ (l.length : Int) := by omega
 have hss : (s.toList == []) = !(s.toList != []) := by simp [bne]
 have hc1 : Hid (True → ∀ w, Gr (fun _ => False) W w → Calls Tryz.prog 58 #[.string s] w fun e w' => e = .returned (.bool (isName s && !wrd s)) ∧ Gr (fun _ => False) w w') := fun _ w gw => (rnamed_c s w).mono fun e w' ⟨h1, h2⟩ => ⟨h1, by rw [h2]; exact Gr.refl _ _⟩
 have hc2 : Hid (1 ≤ (l.length : Int) → ∀ w, Gr (fun _ => False) W w → Calls Tryz.prog 60 #[trv 17 s n (.slice ba b.length bc) (.slice la l.length lc), .int .i64 0, .int .i64 ((l.length : Int) - 1), .int .i64 3, .int .i64 3] w fun e w' => e = .returned (.bool (smV 3 3 (0) (l.length - 1) l)) ∧ Gr (fun _ => False) w w') := fun hq w gw => by
  have h1 : 0 ≤ l.length - 1 := by first | omega | omega
  have h2 : l.length - 1 ≤ l.length := by first | omega | omega
  have := rsome_c N w 17 s n _ ⟨ba, b.length, bc, rfl⟩ la lc l (0) (l.length - 1) 3 3 (hrow.g0 gw) (Nat.le_trans hN gw.size) h1 h2 hl
  have hp : 1 ≤ l.length := by omega
  rw [show ((l.length - 1 : Nat) : Int) = (l.length : Int) - 1 by omega] at this
  exact this
 have hc3 : Hid (1 ≤ (l.length : Int) → ∀ w, Gr (fun _ => False) W w → Calls Tryz.prog 60 #[trv 17 s n (.slice ba b.length bc) (.slice la l.length lc), .int .i64 ((l.length : Int) - 1), .int .i64 (l.length : Int), .int .i64 16, .int .i64 16] w fun e w' => e = .returned (.bool (smV 16 16 (l.length - 1) (l.length) l)) ∧ Gr (fun _ => False) w w') := fun hq w gw => by
  have h1 : l.length - 1 ≤ l.length := by first | omega | omega
  have h2 : l.length ≤ l.length := by first | omega | omega
  have := rsome_c N w 17 s n _ ⟨ba, b.length, bc, rfl⟩ la lc l (l.length - 1) (l.length) 16 16 (hrow.g0 gw) (Nat.le_trans hN gw.size) h1 h2 hl
  have hp : 1 ≤ l.length := by omega
  rw [show ((l.length - 1 : Nat) : Int) = (l.length : Int) - 1 by omega] at this
  exact this
 have hbN : (0 : Int) ≤ (b.length : Int) := by omega
 generalize (isName s && !wrd s) = r1 at hc1 ⊢
 generalize smV 3 3 (0) (l.length - 1) l = r2 at hc2 ⊢
 generalize smV 16 16 (l.length - 1) (l.length) l = r3 at hc3 ⊢
 clear hrow hl hss
 generalize b.length = bl at *
 generalize l.length = ll at *
 by_cases gS : s.toList = []
 all_goals
  cases gN : (n != 0) with
  | true =>
   go_enter Tryz.func27, Tryz.ntmps27
   go_wp2_with fail
   go_ret
   exact ⟨by first | rfl | (simp [*]; done) | (simp_all; done) | (simp [*]; omega) | (simp_all; omega) | (simp [*]; intros; exfalso; omega) | (simp_all; intros; exfalso; omega), gA⟩
  | false =>
   by_cases gB : 0 < bl
   case pos =>
    go_enter Tryz.func27, Tryz.ntmps27
    go_wp2_with fail
    go_ret
    exact ⟨by first | rfl | (simp [*]; done) | (simp_all; done) | (simp [*]; omega) | (simp_all; omega) | (simp [*]; intros; exfalso; omega) | (simp_all; intros; exfalso; omega), gA⟩
   by_cases q6 : 1 ≤ (ll : Int)
   case neg =>
    have q6n : ¬ 1 ≤ ll := by omega
    go_enter Tryz.func27, Tryz.ntmps27
    go_wp2_with fail
    go_ret
    exact ⟨by first | rfl | (simp [*]; done) | (simp_all; done) | (simp [*]; omega) | (simp_all; omega) | (simp [*]; intros; exfalso; omega) | (simp_all; intros; exfalso; omega), gA⟩
   have q6n : 1 ≤ ll := by omega
   cases r1 with
   | false =>
    go_enter Tryz.func27, Tryz.ntmps27
    go_wp2_with fail
    refine (hc1.out (by first | trivial | assumption) _ (gA)).mono ?_
    rintro e w1 ⟨rfl, g1⟩
    have G1 := (gA).trans g1
    have x0_1 := cell_gr m0 g1 (fun e => e)
    have x1_1 := cell_gr m1 g1 (fun e => e)
    have x2_1 := cell_gr m2 g1 (fun e => e)
    have x3_1 := cell_gr m3 g1 (fun e => e)
    have x4_1 := cell_gr m4 g1 (fun e => e)
    have hz1 : W.heap.size < w1.heap.size := World.block_lt_of_cell? _ _ x0_1
    go_wp2_with fail
    go_ret
    exact ⟨by first | rfl | (simp [*]; done) | (simp_all; done) | (simp [*]; omega) | (simp_all; omega) | (simp [*]; intros; exfalso; omega) | (simp_all; intros; exfalso; omega), G1⟩
   | true =>
    cases r2 with
    | false =>
     go_enter Tryz.func27, Tryz.ntmps27
     go_wp2_with fail
     refine (hc1.out (by first | trivial | assumption) _ (gA)).mono ?_
     rintro e w1 ⟨rfl, g1⟩
     have G1 := (gA).trans g1
     have x0_1 := cell_gr m0 g1 (fun e => e)
     have x1_1 := cell_gr m1 g1 (fun e => e)
     have x2_1 := cell_gr m2 g1 (fun e => e)
     have x3_1 := cell_gr m3 g1 (fun e => e)
     have x4_1 := cell_gr m4 g1 (fun e => e)
     have hz1 : W.heap.size < w1.heap.size := World.block_lt_of_cell? _ _ x0_1
     go_wp2_with fail
     refine (hc2.out (by first | trivial | assumption) _ (G1)).mono ?_
     rintro e w2 ⟨rfl, g2⟩
     have G2 := (G1).trans g2
     have x0_2 := cell_gr x0_1 g2 (fun e => e)
     have x1_2 := cell_gr x1_1 g2 (fun e => e)
     have x2_2 := cell_gr x2_1 g2 (fun e => e)
     have x3_2 := cell_gr x3_1 g2 (fun e => e)
     have x4_2 := cell_gr x4_1 g2 (fun e => e)
     have hz2 : W.heap.size < w2.heap.size := World.block_lt_of_cell? _ _ x0_2
     go_wp2_with fail
     go_ret
     exact ⟨by first | rfl | (simp [*]; done) | (simp_all; done) | (simp [*]; omega) | (simp_all; omega) | (simp [*]; intros; exfalso; omega) | (simp_all; intros; exfalso; omega), G2⟩
    | true =>
     go_enter Tryz.func27, Tryz.ntmps27
     go_wp2_with fail
     refine (hc1.out (by first | trivial | assumption) _ (gA)).mono ?_
     rintro e w1 ⟨rfl, g1⟩
     have G1 := (gA).trans g1
     have x0_1 := cell_gr m0 g1 (fun e => e)
     have x1_1 := cell_gr m1 g1 (fun e => e)
     have x2_1 := cell_gr m2 g1 (fun e => e)
     have x3_1 := cell_gr m3 g1 (fun e => e)
     have x4_1 := cell_gr m4 g1 (fun e => e)
     have hz1 : W.heap.size < w1.heap.size := World.block_lt_of_cell? _ _ x0_1
     go_wp2_with fail
     refine (hc2.out (by first | trivial | assumption) _ (G1)).mono ?_
     rintro e w2 ⟨rfl, g2⟩
     have G2 := (G1).trans g2
     have x0_2 := cell_gr x0_1 g2 (fun e => e)
     have x1_2 := cell_gr x1_1 g2 (fun e => e)
     have x2_2 := cell_gr x2_1 g2 (fun e => e)
     have x3_2 := cell_gr x3_1 g2 (fun e => e)
     have x4_2 := cell_gr x4_1 g2 (fun e => e)
     have hz2 : W.heap.size < w2.heap.size := World.block_lt_of_cell? _ _ x0_2
     go_wp2_with fail
     refine (hc3.out (by first | trivial | assumption) _ (G2)).mono ?_
     rintro e w3 ⟨rfl, g3⟩
     have G3 := (G2).trans g3
     have x0_3 := cell_gr x0_2 g3 (fun e => e)
     have x1_3 := cell_gr x1_2 g3 (fun e => e)
     have x2_3 := cell_gr x2_2 g3 (fun e => e)
     have x3_3 := cell_gr x3_2 g3 (fun e => e)
     have x4_3 := cell_gr x4_2 g3 (fun e => e)
     have hz3 : W.heap.size < w3.heap.size := World.block_lt_of_cell? _ _ x0_3
     go_wp2_with fail
     go_ret
     exact ⟨by first | rfl | (simp [*]; done) | (simp_all; done) | (simp [*]; omega) | (simp_all; omega) | (simp [*]; intros; exfalso; omega) | (simp_all; intros; exfalso; omega), G3⟩
set_option maxRecDepth 100000 in
set_option maxHeartbeats 1600000 in
theorem fm18 (s : ByteArray) (n : Int) (b : List Int) (l : List Tr) (hl : l.length ≤ 4611686018427387904) : FmIs 18 s n b l (!(n != 0) && !decide (0 < (b.length : Int)) && !(s.toList != []) && smV 17 17 (0) (l.length) l) := by
 intro N W ba bc la lc hrow hN
 have gA := Gr.alloc W (.cells #[.int .i64 18, .string s, .int .i64 n, .slice ba b.length bc, .slice la l.length lc] 25) (fun _ => False)
 obtain ⟨⟨m0, m1, m2, m3, m4⟩, _⟩ := five_cells (heap_alloc_new W (.cells #[.int .i64 18, .string s, .int .i64 n, .slice ba b.length bc, .slice la l.length lc] 25))
 have hlI : (l.length : Int) ≤ 4611686018427387904 := by omega
 have hl0 : (0 : Int) ≤ (l.length : Int) := by omega
 have hss : (s.toList == []) = !(s.toList != []) := by simp [bne]
 have hc1 : Hid (True → ∀ w, Gr (fun _ => False) W w → Calls Tryz.prog 60 #[trv 18 s n (.slice ba b.length bc) (.slice la l.length lc), .int .i64 0, .int .i64 (l.length : Int), .int .i64 17, .int .i64 17] w fun e w' => e = .returned (.bool (smV 17 17 (0) (l.length) l)) ∧ Gr (fun _ => False) w w') := fun hq w gw => by
  have h1 : 0 ≤ l.length := by first | omega | omega
  have h2 : l.length ≤ l.length := by first | omega | omega
  have := rsome_c N w 18 s n _ ⟨ba, b.length, bc, rfl⟩ la lc l (0) (l.length) 17 17 (hrow.g0 gw) (Nat.le_trans hN gw.size) h1 h2 hl
  exact this
 have hbN : (0 : Int) ≤ (b.length : Int) := by omega
 generalize smV 17 17 (0) (l.length) l = r1 at hc1 ⊢
 clear hrow hl hss
 generalize b.length = bl at *
 generalize l.length = ll at *
 cases gN : (n != 0) with
 | true =>
  go_enter Tryz.func27, Tryz.ntmps27
  go_wp2_with fail
  go_ret
  exact ⟨by first | rfl | (simp [*]; done) | (simp_all; done) | (simp [*]; omega) | (simp_all; omega) | (simp [*]; intros; exfalso; omega) | (simp_all; intros; exfalso; omega), gA⟩
 | false =>
  by_cases gB : 0 < bl
  case pos =>
   go_enter Tryz.func27, Tryz.ntmps27
   go_wp2_with fail
   go_ret
   exact ⟨by first | rfl | (simp [*]; done) | (simp_all; done) | (simp [*]; omega) | (simp_all; omega) | (simp [*]; intros; exfalso; omega) | (simp_all; intros; exfalso; omega), gA⟩
  by_cases gS : s.toList = []
  case neg =>
   have gS2 : s.toList.isEmpty = false := by simpa using gS
   go_enter Tryz.func27, Tryz.ntmps27
   go_wp2_with fail
   go_ret
   exact ⟨by first | rfl | (simp [*]; done) | (simp_all; done) | (simp [*]; omega) | (simp_all; omega) | (simp [*]; intros; exfalso; omega) | (simp_all; intros; exfalso; omega), gA⟩
  go_enter Tryz.func27, Tryz.ntmps27
  go_wp2_with fail
  refine (hc1.out (by first | trivial | assumption) _ (gA)).mono ?_
  rintro e w1 ⟨rfl, g1⟩
  have G1 := (gA).trans g1
  have x0_1 := cell_gr m0 g1 (fun e => e)
  have x1_1 := cell_gr m1 g1 (fun e => e)
  have x2_1 := cell_gr m2 g1 (fun e => e)
  have x3_1 := cell_gr m3 g1 (fun e => e)
  have x4_1 := cell_gr m4 g1 (fun e => e)
  have hz1 : W.heap.size < w1.heap.size := World.block_lt_of_cell? _ _ x0_1
  go_wp2_with fail
  go_ret
  exact ⟨by first | rfl | (simp [*]; done) | (simp_all; done) | (simp [*]; omega) | (simp_all; omega) | (simp [*]; intros; exfalso; omega) | (simp_all; intros; exfalso; omega), G1⟩
end Go.Proofs.YtjedbfbolifjjaaGreatDoor
