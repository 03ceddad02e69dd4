/-
  Builtins: the program's table and the reference's.
-/
import Derived.Test.YtjedbfbolifjjaaGreatDoorG
import Derived.Laws.Tables
set_option linter.unusedVariables false
set_option linter.unusedSimpArgs false
namespace Go.Proofs.YtjedbfbolifjjaaGreatDoor
open Go.RowKit Go.Maps
def bN (k : Nat) : ByteArray := ([⟨#[115, 101, 108, 102]⟩, ⟨#[110, 111, 100, 101]⟩, ⟨#[110, 101, 97, 114]⟩, ⟨#[110, 111, 100, 101, 115]⟩, ⟨#[115, 112, 97, 119, 110]⟩, ⟨#[115, 112, 97, 119, 110]⟩, ⟨#[108, 105, 110, 107]⟩, ⟨#[117, 110, 108, 105, 110, 107]⟩, ⟨#[109, 111, 110, 105, 116, 111, 114]⟩, ⟨#[100, 101, 109, 111, 110, 105, 116, 111, 114]⟩, ⟨#[101, 120, 105, 116]⟩, ⟨#[101, 120, 105, 116]⟩, ⟨#[116, 114, 97, 112]⟩, ⟨#[114, 101, 103, 105, 115, 116, 101, 114]⟩, ⟨#[119, 104, 101, 114, 101, 105, 115]⟩, ⟨#[99, 108, 97, 105, 109]⟩, ⟨#[102, 105, 110, 100]⟩, ⟨#[115, 97, 121]⟩, ⟨#[114, 101, 102]⟩, ⟨#[99, 120]⟩, ⟨#[99, 111, 110, 106]⟩, ⟨#[108, 101, 110]⟩, ⟨#[101, 108, 101, 109]⟩, ⟨#[104, 100]⟩, ⟨#[116, 108]⟩, ⟨#[99, 111, 110, 115]⟩] : List ByteArray).getD k ⟨#[]⟩
def bA (k : Nat) : Int := ([0, 0, 0, 0, 2, 3, 1, 1, 1, 1, 1, 2, 1, 2, 1, 2, 1, 1, 0, 2, 1, 1, 2, 1, 1, 2] : List Int).getD k 0
/-- The table as the cells of the variable. -/
def buC : Array Value := #[.string ⟨#[115, 101, 108, 102]⟩, .int .i64 0, .string ⟨#[110, 111, 100, 101]⟩, .int .i64 0, .string ⟨#[110, 101, 97, 114]⟩, .int .i64 0, .string ⟨#[110, 111, 100, 101, 115]⟩, .int .i64 0, .string ⟨#[115, 112, 97, 119, 110]⟩, .int .i64 2, .string ⟨#[115, 112, 97, 119, 110]⟩, .int .i64 3, .string ⟨#[108, 105, 110, 107]⟩, .int .i64 1, .string ⟨#[117, 110, 108, 105, 110, 107]⟩, .int .i64 1, .string ⟨#[109, 111, 110, 105, 116, 111, 114]⟩, .int .i64 1, .string ⟨#[100, 101, 109, 111, 110, 105, 116, 111, 114]⟩, .int .i64 1, .string ⟨#[101, 120, 105, 116]⟩, .int .i64 1, .string ⟨#[101, 120, 105, 116]⟩, .int .i64 2, .string ⟨#[116, 114, 97, 112]⟩, .int .i64 1, .string ⟨#[114, 101, 103, 105, 115, 116, 101, 114]⟩, .int .i64 2, .string ⟨#[119, 104, 101, 114, 101, 105, 115]⟩, .int .i64 1, .string ⟨#[99, 108, 97, 105, 109]⟩, .int .i64 2, .string ⟨#[102, 105, 110, 100]⟩, .int .i64 1, .string ⟨#[115, 97, 121]⟩, .int .i64 1, .string ⟨#[114, 101, 102]⟩, .int .i64 0, .string ⟨#[99, 120]⟩, .int .i64 2, .string ⟨#[99, 111, 110, 106]⟩, .int .i64 1, .string ⟨#[108, 101, 110]⟩, .int .i64 1, .string ⟨#[101, 108, 101, 109]⟩, .int .i64 2, .string ⟨#[104, 100]⟩, .int .i64 1, .string ⟨#[116, 108]⟩, .int .i64 1, .string ⟨#[99, 111, 110, 115]⟩, .int .i64 2]
theorem ixB0 (w : World) : (Instr.index 62 (.agg buC) (.int .i64 ((0 : Nat) : Int))).run Tryz.prog w = .ok (.agg #[.string (bN 0), .int .i64 (bA 0)]) w := by kernel_rfl
theorem ixB1 (w : World) : (Instr.index 62 (.agg buC) (.int .i64 ((1 : Nat) : Int))).run Tryz.prog w = .ok (.agg #[.string (bN 1), .int .i64 (bA 1)]) w := by kernel_rfl
theorem ixB2 (w : World) : (Instr.index 62 (.agg buC) (.int .i64 ((2 : Nat) : Int))).run Tryz.prog w = .ok (.agg #[.string (bN 2), .int .i64 (bA 2)]) w := by kernel_rfl
theorem ixB3 (w : World) : (Instr.index 62 (.agg buC) (.int .i64 ((3 : Nat) : Int))).run Tryz.prog w = .ok (.agg #[.string (bN 3), .int .i64 (bA 3)]) w := by kernel_rfl
theorem ixB4 (w : World) : (Instr.index 62 (.agg buC) (.int .i64 ((4 : Nat) : Int))).run Tryz.prog w = .ok (.agg #[.string (bN 4), .int .i64 (bA 4)]) w := by kernel_rfl
theorem ixB5 (w : World) : (Instr.index 62 (.agg buC) (.int .i64 ((5 : Nat) : Int))).run Tryz.prog w = .ok (.agg #[.string (bN 5), .int .i64 (bA 5)]) w := by kernel_rfl
theorem ixB6 (w : World) : (Instr.index 62 (.agg buC) (.int .i64 ((6 : Nat) : Int))).run Tryz.prog w = .ok (.agg #[.string (bN 6), .int .i64 (bA 6)]) w := by kernel_rfl
theorem ixB7 (w : World) : (Instr.index 62 (.agg buC) (.int .i64 ((7 : Nat) : Int))).run Tryz.prog w = .ok (.agg #[.string (bN 7), .int .i64 (bA 7)]) w := by kernel_rfl
theorem ixB8 (w : World) : (Instr.index 62 (.agg buC) (.int .i64 ((8 : Nat) : Int))).run Tryz.prog w = .ok (.agg #[.string (bN 8), .int .i64 (bA 8)]) w := by kernel_rfl
theorem ixB9 (w : World) : (Instr.index 62 (.agg buC) (.int .i64 ((9 : Nat) : Int))).run Tryz.prog w = .ok (.agg #[.string (bN 9), .int .i64 (bA 9)]) w := by kernel_rfl
theorem ixB10 (w : World) : (Instr.index 62 (.agg buC) (.int .i64 ((10 : Nat) : Int))).run Tryz.prog w = .ok (.agg #[.string (bN 10), .int .i64 (bA 10)]) w := by kernel_rfl
theorem ixB11 (w : World) : (Instr.index 62 (.agg buC) (.int .i64 ((11 : Nat) : Int))).run Tryz.prog w = .ok (.agg #[.string (bN 11), .int .i64 (bA 11)]) w := by kernel_rfl
theorem ixB12 (w : World) : (Instr.index 62 (.agg buC) (.int .i64 ((12 : Nat) : Int))).run Tryz.prog w = .ok (.agg #[.string (bN 12), .int .i64 (bA 12)]) w := by kernel_rfl
theorem ixB13 (w : World) : (Instr.index 62 (.agg buC) (.int .i64 ((13 : Nat) : Int))).run Tryz.prog w = .ok (.agg #[.string (bN 13), .int .i64 (bA 13)]) w := by kernel_rfl
theorem ixB14 (w : World) : (Instr.index 62 (.agg buC) (.int .i64 ((14 : Nat) : Int))).run Tryz.prog w = .ok (.agg #[.string (bN 14), .int .i64 (bA 14)]) w := by kernel_rfl
theorem ixB15 (w : World) : (Instr.index 62 (.agg buC) (.int .i64 ((15 : Nat) : Int))).run Tryz.prog w = .ok (.agg #[.string (bN 15), .int .i64 (bA 15)]) w := by kernel_rfl
theorem ixB16 (w : World) : (Instr.index 62 (.agg buC) (.int .i64 ((16 : Nat) : Int))).run Tryz.prog w = .ok (.agg #[.string (bN 16), .int .i64 (bA 16)]) w := by kernel_rfl
theorem ixB17 (w : World) : (Instr.index 62 (.agg buC) (.int .i64 ((17 : Nat) : Int))).run Tryz.prog w = .ok (.agg #[.string (bN 17), .int .i64 (bA 17)]) w := by kernel_rfl
theorem ixB18 (w : World) : (Instr.index 62 (.agg buC) (.int .i64 ((18 : Nat) : Int))).run Tryz.prog w = .ok (.agg #[.string (bN 18), .int .i64 (bA 18)]) w := by kernel_rfl
theorem ixB19 (w : World) : (Instr.index 62 (.agg buC) (.int .i64 ((19 : Nat) : Int))).run Tryz.prog w = .ok (.agg #[.string (bN 19), .int .i64 (bA 19)]) w := by kernel_rfl
theorem ixB20 (w : World) : (Instr.index 62 (.agg buC) (.int .i64 ((20 : Nat) : Int))).run Tryz.prog w = .ok (.agg #[.string (bN 20), .int .i64 (bA 20)]) w := by kernel_rfl
theorem ixB21 (w : World) : (Instr.index 62 (.agg buC) (.int .i64 ((21 : Nat) : Int))).run Tryz.prog w = .ok (.agg #[.string (bN 21), .int .i64 (bA 21)]) w := by kernel_rfl
theorem ixB22 (w : World) : (Instr.index 62 (.agg buC) (.int .i64 ((22 : Nat) : Int))).run Tryz.prog w = .ok (.agg #[.string (bN 22), .int .i64 (bA 22)]) w := by kernel_rfl
theorem ixB23 (w : World) : (Instr.index 62 (.agg buC) (.int .i64 ((23 : Nat) : Int))).run Tryz.prog w = .ok (.agg #[.string (bN 23), .int .i64 (bA 23)]) w := by kernel_rfl
theorem ixB24 (w : World) : (Instr.index 62 (.agg buC) (.int .i64 ((24 : Nat) : Int))).run Tryz.prog w = .ok (.agg #[.string (bN 24), .int .i64 (bA 24)]) w := by kernel_rfl
theorem ixB25 (w : World) : (Instr.index 62 (.agg buC) (.int .i64 ((25 : Nat) : Int))).run Tryz.prog w = .ok (.agg #[.string (bN 25), .int .i64 (bA 25)]) w := by kernel_rfl
theorem ixB (k : Nat) (h : k < 26) (w : World) : (Instr.index 62 (.agg buC) (.int .i64 (k : Int))).run Tryz.prog w = .ok (.agg #[.string (bN k), .int .i64 (bA k)]) w := by
 match k, h with
 | 0, _ => exact ixB0 w
 | 1, _ => exact ixB1 w
 | 2, _ => exact ixB2 w
 | 3, _ => exact ixB3 w
 | 4, _ => exact ixB4 w
 | 5, _ => exact ixB5 w
 | 6, _ => exact ixB6 w
 | 7, _ => exact ixB7 w
 | 8, _ => exact ixB8 w
 | 9, _ => exact ixB9 w
 | 10, _ => exact ixB10 w
 | 11, _ => exact ixB11 w
 | 12, _ => exact ixB12 w
 | 13, _ => exact ixB13 w
 | 14, _ => exact ixB14 w
 | 15, _ => exact ixB15 w
 | 16, _ => exact ixB16 w
 | 17, _ => exact ixB17 w
 | 18, _ => exact ixB18 w
 | 19, _ => exact ixB19 w
 | 20, _ => exact ixB20 w
 | 21, _ => exact ixB21 w
 | 22, _ => exact ixB22 w
 | 23, _ => exact ixB23 w
 | 24, _ => exact ixB24 w
 | 25, _ => exact ixB25 w
 | n + 26, h => exact absurd h (by omega)
theorem buC_at : ∀ k, k < 26 → buC[k * 2 + 1]? = some (.int .i64 (bA k))
 | 0, _ => rfl
 | 1, _ => rfl
 | 2, _ => rfl
 | 3, _ => rfl
 | 4, _ => rfl
 | 5, _ => rfl
 | 6, _ => rfl
 | 7, _ => rfl
 | 8, _ => rfl
 | 9, _ => rfl
 | 10, _ => rfl
 | 11, _ => rfl
 | 12, _ => rfl
 | 13, _ => rfl
 | 14, _ => rfl
 | 15, _ => rfl
 | 16, _ => rfl
 | 17, _ => rfl
 | 18, _ => rfl
 | 19, _ => rfl
 | 20, _ => rfl
 | 21, _ => rfl
 | 22, _ => rfl
 | 23, _ => rfl
 | 24, _ => rfl
 | 25, _ => rfl
 | n + 26, h => absurd h (by omega)
def Bu (W : World) : Prop := ∃ t f, W.heap[0]? = some (.cells buC t f)
theorem Bu.lt {W : World} (h : Bu W) : 0 < W.heap.size := by obtain ⟨t, f, h⟩ := h; exact (Array.getElem?_eq_some_iff.1 h).1
theorem Bu.gr {S : Nat → Prop} {W W' : World} (h : Bu W) (g : Gr S W W') (hs : ¬ S 0) : Bu W' := by
 obtain ⟨t, f, h⟩ := h
 exact ⟨t, f, g.keep h hs⟩
theorem i62 : (Tryz.prog.info? 62).map (·.size) = some buC.size := by kernel_rfl
/-- Is it the builtin number k (from 0 on)? -/
def mtB (s : ByteArray) (n : Int) (k : Nat) : Bool := ((bN k).toList == s.toList) && (bA k == n)
def fdB (s : ByteArray) (n : Int) : Nat → Nat → Nat
 | 0, _ => 0
 | f + 1, k => if mtB s n k = true then k + 1 else fdB s n f (k + 1)
/-- A builtin's number; 0: none. -/
def biV (s : ByteArray) (n : Int) : Nat := fdB s n 26 0
def arV (n : Int) : Int := if 1 ≤ n ∧ n ≤ 26 then bA (n - 1).toNat else -1
set_option maxRecDepth 100000 in
set_option maxHeartbeats 1600000 in
theorem builtin_c (W : World) (s : ByteArray) (n : Int) (hB : Bu W) : Calls Tryz.prog 15 #[.string s, .int .i64 n] W fun e w' => e = .returned (.int .i64 (biV s n : Int)) ∧ Gr (fun _ => False) W w' := by
 obtain ⟨r, hr⟩ : ∃ r, r = biV s n := ⟨_, rfl⟩
 rw [← hr]
 have Hr := Lib.hid hr
 clear hr
 have hl0 := hB.lt
 obtain ⟨t0, f0, hg⟩ := hB
 have hi62 := i62
 have hxA := ixB
 generalize buC = cs at hg hi62 hxA
 replace hg := Lib.hid hg
 replace hxA := Lib.hid hxA
 replace hi62 := Lib.hid hi62
 go_enter Tryz.func15, Tryz.ntmps15
 go_wp2_with (first | (refine wpList_load_row rfl 62 _ rfl 0 rfl t0 cs f0 _ hg.out Tryz.underlying62 rfl hi62.out ?_))
 go_loopw [8] (fun u wr => ∃ k : Nat, k ≤ 26 ∧ u = .int .i64 (k : Int) ∧ Hid (r = fdB s n (26 - k) k) ∧ Gr (fun _ => False) W wr) (fun u _ => 26 - (intOf u).toNat)
 case atStart => exact ⟨0, by omega, rfl, Hr.out, Gr.refl _ _⟩
 case round =>
  obtain ⟨k, hk, rfl, Hk, hG⟩ := hrel
  by_cases hk2 : k = 26
  · subst hk2
    have e : r = 0 := by rw [Hk.out]; rfl
    subst e
    go_wp2_with fail
    go_ret
    exact ⟨rfl, hG⟩
  ·
   have hk3 : k < 26 := by omega
   have hkI : (k : Int) < 26 := by omega
   have hx := hxA.out k hk3
   have Hc : Hid (r = if mtB s n k = true then k + 1 else fdB s n (26 - (k + 1)) (k + 1)) := by
    show r = _
    rw [Hk.out, show 26 - k = (26 - (k + 1)) + 1 by omega, fdB]
   have HG := Lib.hid hG
   clear hG Hk
   unfold mtB at Hc
   have Hk3 := Lib.hid hk3
   clear hk3 hk2
   generalize bN k = B at hx Hc
   generalize bA k = A at hx Hc
   cases q1 : (B.toList == s.toList) with
   | false =>
    go_wp2_with fail
    refine ⟨⟨k + 1, Hk3.out, by go_num, ?_, HG.out.trans (Gr.alloc _ _ _)⟩, by have := Hk3.out; simp [intOf]; omega⟩
    show r = _
    rw [Hc.out, q1, if_neg (by simp)]
   | true =>
    cases q2 : (A == n) with
    | false =>
     go_wp2_with fail
     refine ⟨⟨k + 1, Hk3.out, by go_num, ?_, HG.out.trans (Gr.alloc _ _ _)⟩, by have := Hk3.out; simp [intOf]; omega⟩
     show r = _
     rw [Hc.out, q1, q2, if_neg (by simp)]
    | true =>
     go_wp2_with fail
     go_ret
     refine ⟨?_, HG.out.trans (Gr.alloc _ _ _)⟩
     rw [Hc.out, q1, q2, if_pos (by simp)]
     congr 1
theorem bu_cell {W : World} (hB : Bu W) (k : Nat) (hk : k < 26) : W.cell? ⟨0, k * 2 + 1, none⟩ = some (.int .i64 (bA k)) := by
 obtain ⟨t, f, h⟩ := hB
 simp only [World.cell?, h]
 exact buC_at k hk
set_option maxRecDepth 100000 in
theorem arity_c (W : World) (n : Int) (hB : Bu W) : Calls Tryz.prog 17 #[.int .i64 n] W fun e w' => e = .returned (.int .i64 (arV n)) ∧ Gr (fun _ => False) W w' := by
 have hl0 := hB.lt
 unfold arV
 by_cases h1 : 1 ≤ n
 ·
  by_cases h2 : n ≤ 26
  ·
   rw [if_pos ⟨h1, h2⟩]
   obtain ⟨k, rfl⟩ : ∃ k : Nat, n = (k : Int) + 1 := ⟨(n - 1).toNat, by omega⟩
   have hk : k < 26 := by omega
   have hc := bu_cell hB k hk
   have hkI : (k : Int) < 26 := by omega
   rw [show ((k : Int) + 1 - 1).toNat = k by omega]
   generalize bA k = A at hc ⊢
   have d1 : decide ((k : Int) + 1 < 1) = false := by simp; omega
   have d2 : decide (26 < (k : Int) + 1) = false := by simp; omega
   go_enter Tryz.func17, Tryz.ntmps17
   go_wp2_with fail
   go_ret
   exact ⟨rfl, Gr.refl _ _⟩
  ·
   rw [if_neg (fun h => h2 h.2)]
   have d1 : decide (n < 1) = false := by simp; omega
   have d2 : decide (26 < n) = true := by simp; omega
   go_enter Tryz.func17, Tryz.ntmps17
   go_wp2_with fail
   go_ret
   exact ⟨rfl, Gr.refl _ _⟩
 ·
  rw [if_neg (fun h => h1 h.1)]
  have d1 : decide (n < 1) = true := by simp; omega
  go_enter Tryz.func17, Tryz.ntmps17
  go_wp2_with fail
  go_ret
  exact ⟨rfl, Gr.refl _ _⟩
end Go.Proofs.YtjedbfbolifjjaaGreatDoor
