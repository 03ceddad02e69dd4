/-
  The reference's Formed: most kinds.
-/
import Derived.Test.YtjedbfbolifjjaaGreatDoorMM
set_option linter.unusedVariables false
set_option linter.unusedSimpArgs false
namespace Go.Proofs.YtjedbfbolifjjaaGreatDoor
open Go.RowKit Go.Maps
variable {W W' : World}
/-- What Formed is asked of: a tree's five values and where its row lies. -/
def FmIs (k : Int) (s : ByteArray) (n : Int) (b : List Int) (l : List Tr) (r : Bool) : Prop := ∀ (N : Nat) (W : World) (ba : Option Addr) (bc : Nat) (la : Option Addr) (lc : Nat), RowAt N W la l → N ≤ W.heap.size → Calls Tryz.prog 27 #[trv k s n (.slice ba b.length bc) (.slice la l.length lc)] W fun e w' => e = .returned (.bool r) ∧ Gr (fun _ => False) W w'
set_option maxRecDepth 100000 in
set_option maxHeartbeats 1600000 in
theorem fm1 (s : ByteArray) (n : Int) (b : List Int) (l : List Tr) (hl : l.length ≤ 4611686018427387904) : FmIs 1 s n b l (!decide (0 < (b.length : Int)) && !(s.toList != []) && ((l.length : Int) == 0) && decide (0 ≤ n) && decide (n < 4611686018427387904)) := by
 intro N W ba bc la lc hrow hN
 have gA := Gr.alloc W (.cells #[.int .i64 1, .string s, .int .i64 n, .slice ba b.length bc, .slice la l.length lc] 25) (fun _ => False)
 obtain ⟨⟨m0, m1, m2, m3, m4⟩, _⟩ := five_cells (heap_alloc_new W (.cells #[.int .i64 1, .string s, .int .i64 n, .slice ba b.length bc, .slice la l.length lc] 25))
 have hlI : (l.length : Int) ≤ 4611686018427387904 := by omega
 have hl0 : (0 : Int) ≤ (l.length : Int) := by omega
 have hss : (s.toList == []) = !(s.toList != []) := by simp [bne]
 have hbN : (0 : Int) ≤ (b.length : Int) := by omega
 clear hrow hl hss
 generalize b.length = bl at *
 generalize l.length = ll at *
 cases gN : (n != 0)
 all_goals
  by_cases gB : 0 < bl
  case pos =>
   go_enter Tryz.func27, Tryz.ntmps27
   go_wp2_with fail
   go_ret
   exact ⟨by first | rfl | (simp [*]; done) | (simp_all; done) | (simp [*]; omega) | (simp_all; omega) | (simp [*]; intros; exfalso; omega) | (simp_all; intros; exfalso; omega), gA⟩
  by_cases gS : s.toList = []
  case neg =>
   have gS2 : s.toList.isEmpty = false := by simpa using gS
   go_enter Tryz.func27, Tryz.ntmps27
   go_wp2_with fail
   go_ret
   exact ⟨by first | rfl | (simp [*]; done) | (simp_all; done) | (simp [*]; omega) | (simp_all; omega) | (simp [*]; intros; exfalso; omega) | (simp_all; intros; exfalso; omega), gA⟩
  by_cases q4 : ll = 0
  case neg =>
   go_enter Tryz.func27, Tryz.ntmps27
   go_wp2_with fail
   go_ret
   exact ⟨by first | rfl | (simp [*]; done) | (simp_all; done) | (simp [*]; omega) | (simp_all; omega) | (simp [*]; intros; exfalso; omega) | (simp_all; intros; exfalso; omega), gA⟩
  subst q4
  by_cases q4 : 0 ≤ n
  case neg =>
   go_enter Tryz.func27, Tryz.ntmps27
   go_wp2_with fail
   go_ret
   exact ⟨by first | rfl | (simp [*]; done) | (simp_all; done) | (simp [*]; omega) | (simp_all; omega) | (simp [*]; intros; exfalso; omega) | (simp_all; intros; exfalso; omega), gA⟩
  by_cases q4 : n < 4611686018427387904
  case neg =>
   go_enter Tryz.func27, Tryz.ntmps27
   go_wp2_with fail
   go_ret
   exact ⟨by first | rfl | (simp [*]; done) | (simp_all; done) | (simp [*]; omega) | (simp_all; omega) | (simp [*]; intros; exfalso; omega) | (simp_all; intros; exfalso; omega), gA⟩
  go_enter Tryz.func27, Tryz.ntmps27
  go_wp2_with fail
  go_ret
  exact ⟨by first | rfl | (simp [*]; done) | (simp_all; done) | (simp [*]; omega) | (simp_all; omega) | (simp [*]; intros; exfalso; omega) | (simp_all; intros; exfalso; omega), gA⟩
set_option maxRecDepth 100000 in
set_option maxHeartbeats 1600000 in
theorem fm2 (s : ByteArray) (n : Int) (b : List Int) (l : List Tr) (hl : l.length ≤ 4611686018427387904) : FmIs 2 s n b l (!(n != 0) && !decide (0 < (b.length : Int)) && ((l.length : Int) == 0) && (isName s && !wrd s)) := by
 intro N W ba bc la lc hrow hN
 have gA := Gr.alloc W (.cells #[.int .i64 2, .string s, .int .i64 n, .slice ba b.length bc, .slice la l.length lc] 25) (fun _ => False)
 obtain ⟨⟨m0, m1, m2, m3, m4⟩, _⟩ := five_cells (heap_alloc_new W (.cells #[.int .i64 2, .string s, .int .i64 n, .slice ba b.length bc, .slice la l.length lc] 25))
 have hlI : (l.length : Int) ≤ 4611686018427387904 := by omega
 have hl0 : (0 : Int) ≤ (l.length : Int) := by omega
 have hss : (s.toList == []) = !(s.toList != []) := by simp [bne]
 have hc1 : Hid (True → ∀ w, Gr (fun _ => False) W w → Calls Tryz.prog 58 #[.string s] w fun e w' => e = .returned (.bool (isName s && !wrd s)) ∧ Gr (fun _ => False) w w') := fun _ w gw => (rnamed_c s w).mono fun e w' ⟨h1, h2⟩ => ⟨h1, by rw [h2]; exact Gr.refl _ _⟩
 have hbN : (0 : Int) ≤ (b.length : Int) := by omega
 generalize (isName s && !wrd s) = r1 at hc1 ⊢
 clear hrow hl hss
 generalize b.length = bl at *
 generalize l.length = ll at *
 by_cases gS : s.toList = []
 all_goals
  cases gN : (n != 0) with
  | true =>
   go_enter Tryz.func27, Tryz.ntmps27
   go_wp2_with fail
   go_ret
   exact ⟨by first | rfl | (simp [*]; done) | (simp_all; done) | (simp [*]; omega) | (simp_all; omega) | (simp [*]; intros; exfalso; omega) | (simp_all; intros; exfalso; omega), gA⟩
  | false =>
   by_cases gB : 0 < bl
   case pos =>
    go_enter Tryz.func27, Tryz.ntmps27
    go_wp2_with fail
    go_ret
    exact ⟨by first | rfl | (simp [*]; done) | (simp_all; done) | (simp [*]; omega) | (simp_all; omega) | (simp [*]; intros; exfalso; omega) | (simp_all; intros; exfalso; omega), gA⟩
   by_cases q6 : ll = 0
   case neg =>
    go_enter Tryz.func27, Tryz.ntmps27
    go_wp2_with fail
    go_ret
    exact ⟨by first | rfl | (simp [*]; done) | (simp_all; done) | (simp [*]; omega) | (simp_all; omega) | (simp [*]; intros; exfalso; omega) | (simp_all; intros; exfalso; omega), gA⟩
   subst q6
   go_enter Tryz.func27, Tryz.ntmps27
   go_wp2_with fail
   refine (hc1.out (by first | trivial | assumption) _ (gA)).mono ?_
   rintro e w1 ⟨rfl, g1⟩
   have G1 := (gA).trans g1
   have x0_1 := cell_gr m0 g1 (fun e => e)
   have x1_1 := cell_gr m1 g1 (fun e => e)
   have x2_1 := cell_gr m2 g1 (fun e => e)
   have x3_1 := cell_gr m3 g1 (fun e => e)
   have x4_1 := cell_gr m4 g1 (fun e => e)
   have hz1 : W.heap.size < w1.heap.size := World.block_lt_of_cell? _ _ x0_1
   go_wp2_with fail
   go_ret
   exact ⟨by first | rfl | (simp [*]; done) | (simp_all; done) | (simp [*]; omega) | (simp_all; omega) | (simp [*]; intros; exfalso; omega) | (simp_all; intros; exfalso; omega), G1⟩
set_option maxRecDepth 100000 in
set_option maxHeartbeats 1600000 in
theorem fm4 (s : ByteArray) (n : Int) (b : List Int) (l : List Tr) (hl : l.length ≤ 4611686018427387904) : FmIs 4 s n b l (!(n != 0) && !(s.toList != []) && ((l.length : Int) == 0) && decide ((b.length : Int) ≤ 4096)) := by
 intro N W ba bc la lc hrow hN
 have gA := Gr.alloc W (.cells #[.int .i64 4, .string s, .int .i64 n, .slice ba b.length bc, .slice la l.length lc] 25) (fun _ => False)
 obtain ⟨⟨m0, m1, m2, m3, m4⟩, _⟩ := five_cells (heap_alloc_new W (.cells #[.int .i64 4, .string s, .int .i64 n, .slice ba b.length bc, .slice la l.length lc] 25))
 have hlI : (l.length : Int) ≤ 4611686018427387904 := by omega
 have hl0 : (0 : Int) ≤ (l.length : Int) := by omega
 have hss : (s.toList == []) = !(s.toList != []) := by simp [bne]
 have hbN : (0 : Int) ≤ (b.length : Int) := by omega
 clear hrow hl hss
 generalize b.length = bl at *
 generalize l.length = ll at *
 by_cases gB : 0 < bl
 all_goals
  cases gN : (n != 0) with
  | true =>
   go_enter Tryz.func27, Tryz.ntmps27
   go_wp2_with fail
   go_ret
   exact ⟨by first | rfl | (simp [*]; done) | (simp_all; done) | (simp [*]; omega) | (simp_all; omega) | (simp [*]; intros; exfalso; omega) | (simp_all; intros; exfalso; omega), gA⟩
  | false =>
   by_cases gS : s.toList = []
   case neg =>
    have gS2 : s.toList.isEmpty = false := by simpa using gS
    go_enter Tryz.func27, Tryz.ntmps27
    go_wp2_with fail
    go_ret
    exact ⟨by first | rfl | (simp [*]; done) | (simp_all; done) | (simp [*]; omega) | (simp_all; omega) | (simp [*]; intros; exfalso; omega) | (simp_all; intros; exfalso; omega), gA⟩
   by_cases q6 : ll = 0
   case neg =>
    go_enter Tryz.func27, Tryz.ntmps27
    go_wp2_with fail
    go_ret
    exact ⟨by first | rfl | (simp [*]; done) | (simp_all; done) | (simp [*]; omega) | (simp_all; omega) | (simp [*]; intros; exfalso; omega) | (simp_all; intros; exfalso; omega), gA⟩
   subst q6
   by_cases q6 : (bl : Int) ≤ 4096
   case neg =>
    have q6n : ¬ bl ≤ 4096 := by omega
    first
     | (exfalso; omega)
     | (go_enter Tryz.func27, Tryz.ntmps27; go_wp2_with fail; go_ret; exact ⟨by first | rfl | (simp [*]; done) | (simp_all; done) | (simp [*]; omega) | (simp_all; omega) | (simp [*]; intros; exfalso; omega) | (simp_all; intros; exfalso; omega), gA⟩)
   have q6n : bl ≤ 4096 := by omega
   go_enter Tryz.func27, Tryz.ntmps27
   go_wp2_with fail
   go_ret
   exact ⟨by first | rfl | (simp [*]; done) | (simp_all; done) | (simp [*]; omega) | (simp_all; omega) | (simp [*]; intros; exfalso; omega) | (simp_all; intros; exfalso; omega), gA⟩
set_option maxRecDepth 100000 in
set_option maxHeartbeats 1600000 in
theorem fm5 (s : ByteArray) (n : Int) (b : List Int) (l : List Tr) (hl : l.length ≤ 4611686018427387904) : FmIs 5 s n b l (!(n != 0) && !decide (0 < (b.length : Int)) && !(s.toList != []) && smV 1 13 (0) (l.length) l) := by
 intro N W ba bc la lc hrow hN
 have gA := Gr.alloc W (.cells #[.int .i64 5, .string s, .int .i64 n, .slice ba b.length bc, .slice la l.length lc] 25) (fun _ => False)
 obtain ⟨⟨m0, m1, m2, m3, m4⟩, _⟩ := five_cells (heap_alloc_new W (.cells #[.int .i64 5, .string s, .int .i64 n, .slice ba b.length bc, .slice la l.length lc] 25))
 have hlI : (l.length : Int) ≤ 4611686018427387904 := by omega
 have hl0 : (0 : Int) ≤ (l.length : Int) := by omega
 have hss : (s.toList == []) = !(s.toList != []) := by simp [bne]
 have hc1 : Hid (True → ∀ w, Gr (fun _ => False) W w → Calls Tryz.prog 60 #[trv 5 s n (.slice ba b.length bc) (.slice la l.length lc), .int .i64 0, .int .i64 (l.length : Int), .int .i64 1, .int .i64 13] w fun e w' => e = .returned (.bool (smV 1 13 (0) (l.length) l)) ∧ Gr (fun _ => False) w w') := fun hq w gw => by
  have h1 : 0 ≤ l.length := by first | omega | omega
  have h2 : l.length ≤ l.length := by first | omega | omega
  have := rsome_c N w 5 s n _ ⟨ba, b.length, bc, rfl⟩ la lc l (0) (l.length) 1 13 (hrow.g0 gw) (Nat.le_trans hN gw.size) h1 h2 hl
  exact this
 have hbN : (0 : Int) ≤ (b.length : Int) := by omega
 generalize smV 1 13 (0) (l.length) l = r1 at hc1 ⊢
 clear hrow hl hss
 generalize b.length = bl at *
 generalize l.length = ll at *
 cases gN : (n != 0) with
 | true =>
  go_enter Tryz.func27, Tryz.ntmps27
  go_wp2_with fail
  go_ret
  exact ⟨by first | rfl | (simp [*]; done) | (simp_all; done) | (simp [*]; omega) | (simp_all; omega) | (simp [*]; intros; exfalso; omega) | (simp_all; intros; exfalso; omega), gA⟩
 | false =>
  by_cases gB : 0 < bl
  case pos =>
   go_enter Tryz.func27, Tryz.ntmps27
   go_wp2_with fail
   go_ret
   exact ⟨by first | rfl | (simp [*]; done) | (simp_all; done) | (simp [*]; omega) | (simp_all; omega) | (simp [*]; intros; exfalso; omega) | (simp_all; intros; exfalso; omega), gA⟩
  by_cases gS : s.toList = []
  case neg =>
   have gS2 : s.toList.isEmpty = false := by simpa using gS
   go_enter Tryz.func27, Tryz.ntmps27
   go_wp2_with fail
   go_ret
   exact ⟨by first | rfl | (simp [*]; done) | (simp_all; done) | (simp [*]; omega) | (simp_all; omega) | (simp [*]; intros; exfalso; omega) | (simp_all; intros; exfalso; omega), gA⟩
  go_enter Tryz.func27, Tryz.ntmps27
  go_wp2_with fail
  refine (hc1.out (by first | trivial | assumption) _ (gA)).mono ?_
  rintro e w1 ⟨rfl, g1⟩
  have G1 := (gA).trans g1
  have x0_1 := cell_gr m0 g1 (fun e => e)
  have x1_1 := cell_gr m1 g1 (fun e => e)
  have x2_1 := cell_gr m2 g1 (fun e => e)
  have x3_1 := cell_gr m3 g1 (fun e => e)
  have x4_1 := cell_gr m4 g1 (fun e => e)
  have hz1 : W.heap.size < w1.heap.size := World.block_lt_of_cell? _ _ x0_1
  go_wp2_with fail
  go_ret
  exact ⟨by first | rfl | (simp [*]; done) | (simp_all; done) | (simp [*]; omega) | (simp_all; omega) | (simp [*]; intros; exfalso; omega) | (simp_all; intros; exfalso; omega), G1⟩
set_option maxRecDepth 100000 in
set_option maxHeartbeats 1600000 in
theorem fm6 (s : ByteArray) (n : Int) (b : List Int) (l : List Tr) (hl : l.length ≤ 4611686018427387904) : FmIs 6 s n b l (!(n != 0) && !decide (0 < (b.length : Int)) && !(s.toList != []) && smV 1 13 (0) (l.length) l) := by
 intro N W ba bc la lc hrow hN
 have gA := Gr.alloc W (.cells #[.int .i64 6, .string s, .int .i64 n, .slice ba b.length bc, .slice la l.length lc] 25) (fun _ => False)
 obtain ⟨⟨m0, m1, m2, m3, m4⟩, _⟩ := five_cells (heap_alloc_new W (.cells #[.int .i64 6, .string s, .int .i64 n, .slice ba b.length bc, .slice la l.length lc] 25))
 have hlI : (l.length : Int) ≤ 4611686018427387904 := by omega
 have hl0 : (0 : Int) ≤ (l.length : Int) := by omega
 have hss : (s.toList == []) = !(s.toList != []) := by simp [bne]
 have hc1 : Hid (True → ∀ w, Gr (fun _ => False) W w → Calls Tryz.prog 60 #[trv 6 s n (.slice ba b.length bc) (.slice la l.length lc), .int .i64 0, .int .i64 (l.length : Int), .int .i64 1, .int .i64 13] w fun e w' => e = .returned (.bool (smV 1 13 (0) (l.length) l)) ∧ Gr (fun _ => False) w w') := fun hq w gw => by
  have h1 : 0 ≤ l.length := by first | omega | omega
  have h2 : l.length ≤ l.length := by first | omega | omega
  have := rsome_c N w 6 s n _ ⟨ba, b.length, bc, rfl⟩ la lc l (0) (l.length) 1 13 (hrow.g0 gw) (Nat.le_trans hN gw.size) h1 h2 hl
  exact this
 have hbN : (0 : Int) ≤ (b.length : Int) := by omega
 generalize smV 1 13 (0) (l.length) l = r1 at hc1 ⊢
 clear hrow hl hss
 generalize b.length = bl at *
 generalize l.length = ll at *
 cases gN : (n != 0) with
 | true =>
  go_enter Tryz.func27, Tryz.ntmps27
  go_wp2_with fail
  go_ret
  exact ⟨by first | rfl | (simp [*]; done) | (simp_all; done) | (simp [*]; omega) | (simp_all; omega) | (simp [*]; intros; exfalso; omega) | (simp_all; intros; exfalso; omega), gA⟩
 | false =>
  by_cases gB : 0 < bl
  case pos =>
   go_enter Tryz.func27, Tryz.ntmps27
   go_wp2_with fail
   go_ret
   exact ⟨by first | rfl | (simp [*]; done) | (simp_all; done) | (simp [*]; omega) | (simp_all; omega) | (simp [*]; intros; exfalso; omega) | (simp_all; intros; exfalso; omega), gA⟩
  by_cases gS : s.toList = []
  case neg =>
   have gS2 : s.toList.isEmpty = false := by simpa using gS
   go_enter Tryz.func27, Tryz.ntmps27
   go_wp2_with fail
   go_ret
   exact ⟨by first | rfl | (simp [*]; done) | (simp_all; done) | (simp [*]; omega) | (simp_all; omega) | (simp [*]; intros; exfalso; omega) | (simp_all; intros; exfalso; omega), gA⟩
  go_enter Tryz.func27, Tryz.ntmps27
  go_wp2_with fail
  refine (hc1.out (by first | trivial | assumption) _ (gA)).mono ?_
  rintro e w1 ⟨rfl, g1⟩
  have G1 := (gA).trans g1
  have x0_1 := cell_gr m0 g1 (fun e => e)
  have x1_1 := cell_gr m1 g1 (fun e => e)
  have x2_1 := cell_gr m2 g1 (fun e => e)
  have x3_1 := cell_gr m3 g1 (fun e => e)
  have x4_1 := cell_gr m4 g1 (fun e => e)
  have hz1 : W.heap.size < w1.heap.size := World.block_lt_of_cell? _ _ x0_1
  go_wp2_with fail
  go_ret
  exact ⟨by first | rfl | (simp [*]; done) | (simp_all; done) | (simp [*]; omega) | (simp_all; omega) | (simp [*]; intros; exfalso; omega) | (simp_all; intros; exfalso; omega), G1⟩
set_option maxRecDepth 100000 in
set_option maxHeartbeats 1600000 in
theorem fm7 (s : ByteArray) (n : Int) (b : List Int) (l : List Tr) (hl : l.length ≤ 4611686018427387904) : FmIs 7 s n b l (!(n != 0) && !decide (0 < (b.length : Int)) && !(s.toList != []) && ((l.length : Int) == 1) && smV 1 13 (0) (1) l) := by
 intro N W ba bc la lc hrow hN
 have gA := Gr.alloc W (.cells #[.int .i64 7, .string s, .int .i64 n, .slice ba b.length bc, .slice la l.length lc] 25) (fun _ => False)
 obtain ⟨⟨m0, m1, m2, m3, m4⟩, _⟩ := five_cells (heap_alloc_new W (.cells #[.int .i64 7, .string s, .int .i64 n, .slice ba b.length bc, .slice la l.length lc] 25))
 have hlI : (l.length : Int) ≤ 4611686018427387904 := by omega
 have hl0 : (0 : Int) ≤ (l.length : Int) := by omega
 have hss : (s.toList == []) = !(s.toList != []) := by simp [bne]
 have hc1 : Hid ((l.length : Int) = 1 → ∀ w, Gr (fun _ => False) W w → Calls Tryz.prog 60 #[trv 7 s n (.slice ba b.length bc) (.slice la l.length lc), .int .i64 0, .int .i64 1, .int .i64 1, .int .i64 13] w fun e w' => e = .returned (.bool (smV 1 13 (0) (1) l)) ∧ Gr (fun _ => False) w w') := fun hq w gw => by
  have h1 : 0 ≤ 1 := by first | omega | omega
  have h2 : 1 ≤ l.length := by first | omega | omega
  have := rsome_c N w 7 s n _ ⟨ba, b.length, bc, rfl⟩ la lc l (0) (1) 1 13 (hrow.g0 gw) (Nat.le_trans hN gw.size) h1 h2 hl
  exact this
 have hbN : (0 : Int) ≤ (b.length : Int) := by omega
 generalize smV 1 13 (0) (1) l = r1 at hc1 ⊢
 clear hrow hl hss
 generalize b.length = bl at *
 generalize l.length = ll at *
 cases gN : (n != 0) with
 | true =>
  go_enter Tryz.func27, Tryz.ntmps27
  go_wp2_with fail
  go_ret
  exact ⟨by first | rfl | (simp [*]; done) | (simp_all; done) | (simp [*]; omega) | (simp_all; omega) | (simp [*]; intros; exfalso; omega) | (simp_all; intros; exfalso; omega), gA⟩
 | false =>
  by_cases gB : 0 < bl
  case pos =>
   go_enter Tryz.func27, Tryz.ntmps27
   go_wp2_with fail
   go_ret
   exact ⟨by first | rfl | (simp [*]; done) | (simp_all; done) | (simp [*]; omega) | (simp_all; omega) | (simp [*]; intros; exfalso; omega) | (simp_all; intros; exfalso; omega), gA⟩
  by_cases gS : s.toList = []
  case neg =>
   have gS2 : s.toList.isEmpty = false := by simpa using gS
   go_enter Tryz.func27, Tryz.ntmps27
   go_wp2_with fail
   go_ret
   exact ⟨by first | rfl | (simp [*]; done) | (simp_all; done) | (simp [*]; omega) | (simp_all; omega) | (simp [*]; intros; exfalso; omega) | (simp_all; intros; exfalso; omega), gA⟩
  by_cases q4 : (ll : Int) = 1
  case neg =>
   go_enter Tryz.func27, Tryz.ntmps27
   go_wp2_with fail
   go_ret
   exact ⟨by first | rfl | (simp [*]; done) | (simp_all; done) | (simp [*]; omega) | (simp_all; omega) | (simp [*]; intros; exfalso; omega) | (simp_all; intros; exfalso; omega), gA⟩
  go_enter Tryz.func27, Tryz.ntmps27
  go_wp2_with fail
  refine (hc1.out (by first | trivial | assumption) _ (gA)).mono ?_
  rintro e w1 ⟨rfl, g1⟩
  have G1 := (gA).trans g1
  have x0_1 := cell_gr m0 g1 (fun e => e)
  have x1_1 := cell_gr m1 g1 (fun e => e)
  have x2_1 := cell_gr m2 g1 (fun e => e)
  have x3_1 := cell_gr m3 g1 (fun e => e)
  have x4_1 := cell_gr m4 g1 (fun e => e)
  have hz1 : W.heap.size < w1.heap.size := World.block_lt_of_cell? _ _ x0_1
  go_wp2_with fail
  go_ret
  exact ⟨by first | rfl | (simp [*]; done) | (simp_all; done) | (simp [*]; omega) | (simp_all; omega) | (simp [*]; intros; exfalso; omega) | (simp_all; intros; exfalso; omega), G1⟩
set_option maxRecDepth 100000 in
set_option maxHeartbeats 1600000 in
theorem fm9 (s : ByteArray) (n : Int) (b : List Int) (l : List Tr) (hl : l.length ≤ 4611686018427387904) : FmIs 9 s n b l (!(n != 0) && !decide (0 < (b.length : Int)) && !(s.toList != []) && ((l.length : Int) == 2) && smV 1 13 (0) (2) l) := by
 intro N W ba bc la lc hrow hN
 have gA := Gr.alloc W (.cells #[.int .i64 9, .string s, .int .i64 n, .slice ba b.length bc, .slice la l.length lc] 25) (fun _ => False)
 obtain ⟨⟨m0, m1, m2, m3, m4⟩, _⟩ := five_cells (heap_alloc_new W (.cells #[.int .i64 9, .string s, .int .i64 n, .slice ba b.length bc, .slice la l.length lc] 25))
 have hlI : (l.length : Int) ≤ 4611686018427387904 := by omega
 have hl0 : (0 : Int) ≤ (l.length : Int) := by omega
 have hss : (s.toList == []) = !(s.toList != []) := by simp [bne]
 have hc1 : Hid ((l.length : Int) = 2 → ∀ w, Gr (fun _ => False) W w → Calls Tryz.prog 60 #[trv 9 s n (.slice ba b.length bc) (.slice la l.length lc), .int .i64 0, .int .i64 2, .int .i64 1, .int .i64 13] w fun e w' => e = .returned (.bool (smV 1 13 (0) (2) l)) ∧ Gr (fun _ => False) w w') := fun hq w gw => by
  have h1 : 0 ≤ 2 := by first | omega | omega
  have h2 : 2 ≤ l.length := by first | omega | omega
  have := rsome_c N w 9 s n _ ⟨ba, b.length, bc, rfl⟩ la lc l (0) (2) 1 13 (hrow.g0 gw) (Nat.le_trans hN gw.size) h1 h2 hl
  exact this
 have hbN : (0 : Int) ≤ (b.length : Int) := by omega
 generalize smV 1 13 (0) (2) l = r1 at hc1 ⊢
 clear hrow hl hss
 generalize b.length = bl at *
 generalize l.length = ll at *
 cases gN : (n != 0) with
 | true =>
  go_enter Tryz.func27, Tryz.ntmps27
  go_wp2_with fail
  go_ret
  exact ⟨by first | rfl | (simp [*]; done) | (simp_all; done) | (simp [*]; omega) | (simp_all; omega) | (simp [*]; intros; exfalso; omega) | (simp_all; intros; exfalso; omega), gA⟩
 | false =>
  by_cases gB : 0 < bl
  case pos =>
   go_enter Tryz.func27, Tryz.ntmps27
   go_wp2_with fail
   go_ret
   exact ⟨by first | rfl | (simp [*]; done) | (simp_all; done) | (simp [*]; omega) | (simp_all; omega) | (simp [*]; intros; exfalso; omega) | (simp_all; intros; exfalso; omega), gA⟩
  by_cases gS : s.toList = []
  case neg =>
   have gS2 : s.toList.isEmpty = false := by simpa using gS
   go_enter Tryz.func27, Tryz.ntmps27
   go_wp2_with fail
   go_ret
   exact ⟨by first | rfl | (simp [*]; done) | (simp_all; done) | (simp [*]; omega) | (simp_all; omega) | (simp [*]; intros; exfalso; omega) | (simp_all; intros; exfalso; omega), gA⟩
  by_cases q4 : (ll : Int) = 2
  case neg =>
   go_enter Tryz.func27, Tryz.ntmps27
   go_wp2_with fail
   go_ret
   exact ⟨by first | rfl | (simp [*]; done) | (simp_all; done) | (simp [*]; omega) | (simp_all; omega) | (simp [*]; intros; exfalso; omega) | (simp_all; intros; exfalso; omega), gA⟩
  go_enter Tryz.func27, Tryz.ntmps27
  go_wp2_with fail
  refine (hc1.out (by first | trivial | assumption) _ (gA)).mono ?_
  rintro e w1 ⟨rfl, g1⟩
  have G1 := (gA).trans g1
  have x0_1 := cell_gr m0 g1 (fun e => e)
  have x1_1 := cell_gr m1 g1 (fun e => e)
  have x2_1 := cell_gr m2 g1 (fun e => e)
  have x3_1 := cell_gr m3 g1 (fun e => e)
  have x4_1 := cell_gr m4 g1 (fun e => e)
  have hz1 : W.heap.size < w1.heap.size := World.block_lt_of_cell? _ _ x0_1
  go_wp2_with fail
  go_ret
  exact ⟨by first | rfl | (simp [*]; done) | (simp_all; done) | (simp [*]; omega) | (simp_all; omega) | (simp [*]; intros; exfalso; omega) | (simp_all; intros; exfalso; omega), G1⟩
set_option maxRecDepth 100000 in
set_option maxHeartbeats 1600000 in
theorem fm10 (s : ByteArray) (n : Int) (b : List Int) (l : List Tr) (hl : l.length ≤ 4611686018427387904) : FmIs 10 s n b l (!(n != 0) && !decide (0 < (b.length : Int)) && !(s.toList != []) && ((l.length : Int) == 2) && smV 1 13 (0) (2) l) := by
 intro N W ba bc la lc hrow hN
 have gA := Gr.alloc W (.cells #[.int .i64 10, .string s, .int .i64 n, .slice ba b.length bc, .slice la l.length lc] 25) (fun _ => False)
 obtain ⟨⟨m0, m1, m2, m3, m4⟩, _⟩ := five_cells (heap_alloc_new W (.cells #[.int .i64 10, .string s, .int .i64 n, .slice ba b.length bc, .slice la l.length lc] 25))
 have hlI : (l.length : Int) ≤ 4611686018427387904 := by omega
 have hl0 : (0 : Int) ≤ (l.length : Int) := by omega
 have hss : (s.toList == []) = !(s.toList != []) := by simp [bne]
 have hc1 : Hid ((l.length : Int) = 2 → ∀ w, Gr (fun _ => False) W w → Calls Tryz.prog 60 #[trv 10 s n (.slice ba b.length bc) (.slice la l.length lc), .int .i64 0, .int .i64 2, .int .i64 1, .int .i64 13] w fun e w' => e = .returned (.bool (smV 1 13 (0) (2) l)) ∧ Gr (fun _ => False) w w') := fun hq w gw => by
  have h1 : 0 ≤ 2 := by first | omega | omega
  have h2 : 2 ≤ l.length := by first | omega | omega
  have := rsome_c N w 10 s n _ ⟨ba, b.length, bc, rfl⟩ la lc l (0) (2) 1 13 (hrow.g0 gw) (Nat.le_trans hN gw.size) h1 h2 hl
  exact this
 have hbN : (0 : Int) ≤ (b.length : Int) := by omega
 generalize smV 1 13 (0) (2) l = r1 at hc1 ⊢
 clear hrow hl hss
 generalize b.length = bl at *
 generalize l.length = ll at *
 cases gN : (n != 0) with
 | true =>
  go_enter Tryz.func27, Tryz.ntmps27
  go_wp2_with fail
  go_ret
  exact ⟨by first | rfl | (simp [*]; done) | (simp_all; done) | (simp [*]; omega) | (simp_all; omega) | (simp [*]; intros; exfalso; omega) | (simp_all; intros; exfalso; omega), gA⟩
 | false =>
  by_cases gB : 0 < bl
  case pos =>
   go_enter Tryz.func27, Tryz.ntmps27
   go_wp2_with fail
   go_ret
   exact ⟨by first | rfl | (simp [*]; done) | (simp_all; done) | (simp [*]; omega) | (simp_all; omega) | (simp [*]; intros; exfalso; omega) | (simp_all; intros; exfalso; omega), gA⟩
  by_cases gS : s.toList = []
  case neg =>
   have gS2 : s.toList.isEmpty = false := by simpa using gS
   go_enter Tryz.func27, Tryz.ntmps27
   go_wp2_with fail
   go_ret
   exact ⟨by first | rfl | (simp [*]; done) | (simp_all; done) | (simp [*]; omega) | (simp_all; omega) | (simp [*]; intros; exfalso; omega) | (simp_all; intros; exfalso; omega), gA⟩
  by_cases q4 : (ll : Int) = 2
  case neg =>
   go_enter Tryz.func27, Tryz.ntmps27
   go_wp2_with fail
   go_ret
   exact ⟨by first | rfl | (simp [*]; done) | (simp_all; done) | (simp [*]; omega) | (simp_all; omega) | (simp [*]; intros; exfalso; omega) | (simp_all; intros; exfalso; omega), gA⟩
  go_enter Tryz.func27, Tryz.ntmps27
  go_wp2_with fail
  refine (hc1.out (by first | trivial | assumption) _ (gA)).mono ?_
  rintro e w1 ⟨rfl, g1⟩
  have G1 := (gA).trans g1
  have x0_1 := cell_gr m0 g1 (fun e => e)
  have x1_1 := cell_gr m1 g1 (fun e => e)
  have x2_1 := cell_gr m2 g1 (fun e => e)
  have x3_1 := cell_gr m3 g1 (fun e => e)
  have x4_1 := cell_gr m4 g1 (fun e => e)
  have hz1 : W.heap.size < w1.heap.size := World.block_lt_of_cell? _ _ x0_1
  go_wp2_with fail
  go_ret
  exact ⟨by first | rfl | (simp [*]; done) | (simp_all; done) | (simp [*]; omega) | (simp_all; omega) | (simp [*]; intros; exfalso; omega) | (simp_all; intros; exfalso; omega), G1⟩
end Go.Proofs.YtjedbfbolifjjaaGreatDoor
