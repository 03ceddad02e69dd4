/-
  What Near hands over: two numbers compared by their places; the first word that is not nought.
-/
import Derived.Test.YtedmfnleckelaaaC
import Derived.Shelf.SlSortCmp.NoneTotal
import Derived.Shelf.SlGeneric
import Derived.Ground.SlsfProg
import Derived.Lib.RowBridge
import Derived.Lib.SortBridge
set_option linter.unusedSimpArgs false
set_option linter.unusedVariables false
namespace Go.Proofs.Ytedmfnleckelaaa
open Go.Shelf
def Try.sortL_ren : Go.Shelf.Ren := ⟨fun | 6 => 12 | 15 => 22 | 14 => 21 | 28 => 37 | 29 => 38 | 20 => 29 | 21 => 30 | 22 => 31 | 23 => 32 | 24 => 33 | 25 => 34 | 26 => 35 | 27 => 36 | 46 => 42 | 47 => 43 | 48 => 44 | 49 => 45 | 50 => 46 | 57 => 49 | n => n, fun | 22 => 34 | 24 => 3 | 25 => 45 | 3 => 3 | 39 => 61 | 0 => 0 | 53 => 48 | 55 => 49 | 4 => 4 | 46 => 68 | 45 => 67 | 50 => 72 | 5 => 5 | 9 => 9 | 66 => 77 | 70 => 81 | 76 => 84 | 77 => 85 | n => n, fun | n => n⟩
theorem Try.sortL : Go.Proofs.SlLaysF.n6 Try.prog Try.sortL_ren := {
  mixed := by kernel_rfl
  f6 := ⟨Try.f12.name, by decide, Try.func12.trans (congrArg some (by kernel_rfl))⟩
  f14 := ⟨Try.f21.name, by decide, Try.func21.trans (congrArg some (by kernel_rfl))⟩
  f15 := Try.func22.trans (congrArg some (by kernel_rfl))
  f20 := ⟨Try.f29.name, by decide, Try.func29.trans (congrArg some (by kernel_rfl))⟩
  f21 := ⟨Try.f30.name, by decide, Try.func30.trans (congrArg some (by kernel_rfl))⟩
  f22 := ⟨Try.f31.name, by decide, Try.func31.trans (congrArg some (by kernel_rfl))⟩
  f23 := ⟨Try.f32.name, by decide, Try.func32.trans (congrArg some (by kernel_rfl))⟩
  f24 := ⟨Try.f33.name, by decide, Try.func33.trans (congrArg some (by kernel_rfl))⟩
  f25 := ⟨Try.f34.name, by decide, Try.func34.trans (congrArg some (by kernel_rfl))⟩
  f26 := ⟨Try.f35.name, by decide, Try.func35.trans (congrArg some (by kernel_rfl))⟩
  f27 := ⟨Try.f36.name, by decide, Try.func36.trans (congrArg some (by kernel_rfl))⟩
  f28 := Try.func37.trans (congrArg some (by kernel_rfl))
  f29 := Try.func38.trans (congrArg some (by kernel_rfl))
  f46 := ⟨Try.f42.name, by decide, Try.func42.trans (congrArg some (by kernel_rfl))⟩
  f47 := Try.func43.trans (congrArg some (by kernel_rfl))
  f48 := Try.func44.trans (congrArg some (by kernel_rfl))
  f49 := ⟨Try.f45.name, by decide, Try.func45.trans (congrArg some (by kernel_rfl))⟩
  f50 := ⟨Try.f46.name, by decide, Try.func46.trans (congrArg some (by kernel_rfl))⟩
  f57 := ⟨Try.f49.name, by decide, Try.func49.trans (congrArg some (by kernel_rfl))⟩
  t0 := Try.underlying0
  a0 := Try.isAgg0
  z0 := Try.sizeOf0
  v0 := Try.zeroValue0
  t3 := Try.underlying3
  a3 := Try.isAgg3
  z3 := Try.sizeOf3
  v3 := Try.zeroValue3
  t4 := Try.underlying4
  a4 := Try.isAgg4
  z4 := Try.sizeOf4
  v4 := Try.zeroValue4
  t5 := Try.underlying5
  a5 := Try.isAgg5
  z5 := Try.sizeOf5
  v5 := Try.zeroValue5
  t9 := Try.underlying9
  a9 := Try.isAgg9
  z9 := Try.sizeOf9
  v9 := Try.zeroValue9
  t22 := Try.underlying34
  a22 := Try.isAgg34
  z22 := Try.sizeOf34
  v22 := Try.zeroValue34
  a24 := Try.isAgg3
  z24 := Try.sizeOf3
  t25 := Try.underlying45
  a25 := Try.isAgg45
  z25 := Try.sizeOf45
  v25 := Try.zeroValue45
  t39 := Try.underlying61
  a39 := Try.isAgg61
  z39 := Try.sizeOf61
  v39 := Try.zeroValue61
  t45 := Try.underlying67
  a45 := Try.isAgg67
  z45 := Try.sizeOf67
  v45 := Try.zeroValue67
  t46 := Try.underlying68
  a46 := Try.isAgg68
  z46 := Try.sizeOf68
  v46 := Try.zeroValue68
  t50 := Try.underlying72
  a50 := Try.isAgg72
  z50 := Try.sizeOf72
  v50 := Try.zeroValue72
  t53 := Try.underlying48
  a53 := Try.isAgg48
  z53 := Try.sizeOf48
  v53 := Try.zeroValue48
  t55 := Try.underlying49
  a55 := Try.isAgg49
  z55 := Try.sizeOf49
  v55 := Try.zeroValue49
  t66 := Try.underlying77
  a66 := Try.isAgg77
  z66 := Try.sizeOf77
  v66 := Try.zeroValue77
  t70 := Try.underlying81
  a70 := Try.isAgg81
  z70 := Try.sizeOf81
  v70 := Try.zeroValue81
  t76 := Try.underlying84
  a76 := Try.isAgg84
  z76 := Try.sizeOf84
  v76 := Try.zeroValue84
  t77 := Try.underlying85
  a77 := Try.isAgg85
  z77 := Try.sizeOf85
  v77 := Try.zeroValue85 }
end Go.Proofs.Ytedmfnleckelaaa
namespace Go.Proofs.Ytedmfnleckelaaa
open Go.Shelf Go.RowKit Go.Lib Go.Sort Go.Maps
variable {S S' : Nat → Prop} {W W1 W' : World}

def cmpv (x y : Int) : Int := if x < y then -1 else if y < x then 1 else 0
theorem nan_c (x : Int) (w : World) : Calls Try.prog 23 #[.int .i64 x] w fun e w' => e = .returned (.bool false) ∧ w = w' := by
  go_enter Try.func23, Try.ntmps23
  go_wp2
  go_ret
  exact ⟨by simp, rfl⟩
theorem cmp_c (x y : Int) (w : World) : Calls Try.prog 16 #[.int .i64 x, .int .i64 y] w fun e w' => e = .returned (.int .i64 (cmpv x y)) ∧ w = w' := by
  have hs := nan_c
  unfold cmpv
  by_cases h1 : x < y
  · simp only [h1, if_true]
    go_enter Try.func16, Try.ntmps16
    go_wp2_with (go_at_call 23; refine (hs _ _).mono ?_; rintro e w' ⟨rfl, rfl⟩)
    go_ret
    exact ⟨rfl, rfl⟩
  · by_cases h2 : y < x
    · simp only [h1, h2, if_true, if_false]
      go_enter Try.func16, Try.ntmps16
      go_wp2_with (go_at_call 23; refine (hs _ _).mono ?_; rintro e w' ⟨rfl, rfl⟩)
      go_ret
      exact ⟨rfl, rfl⟩
    · simp only [h1, h2, if_false]
      go_enter Try.func16, Try.ntmps16
      go_wp2_with (go_at_call 23; refine (hs _ _).mono ?_; rintro e w' ⟨rfl, rfl⟩)
      go_ret
      exact ⟨rfl, rfl⟩
theorem nanf_c (x : Nat) (hx : FloatKind.f64.format.order x x = some .eq) (w : World) : Calls Try.prog 24 #[.float .f64 x] w fun e w' => e = .returned (.bool false) ∧ w = w' := by
  go_enter Try.func24, Try.ntmps24
  go_wp2
  go_ret
  exact ⟨by simp, rfl⟩
def ov : Ordering → Int
  | .lt => -1
  | .eq => 0
  | .gt => 1
theorem cmpf_c (x y : Nat) (o : Ordering) (hx : FloatKind.f64.format.order x x = some .eq) (hy : FloatKind.f64.format.order y y = some .eq) (ho : FloatKind.f64.format.order x y = some o) (w : World) :
    Calls Try.prog 17 #[.float .f64 x, .float .f64 y] w fun e w' => e = .returned (.int .i64 (ov o)) ∧ w = w' := by
  have h1 := nanf_c x hx
  have h2 := nanf_c y hy
  clear hx hy
  cases o
  all_goals
    go_enter Try.func17, Try.ntmps17
    go_wp2_with fail
    refine (h1 _).mono ?_
    rintro e w' ⟨rfl, rfl⟩
    go_wp2_with fail
    refine (h2 _).mono ?_
    rintro e w' ⟨rfl, rfl⟩
    go_wp2_with fail
    go_ret
    exact ⟨rfl, rfl⟩
/-- The first of three that is not nought. -/
theorem or_first (W : World) (g : Nat) (a : Int) (ha : (a != 0) = true) (h0 : W.cell? ⟨g, 0, none⟩ = some (.int .i64 a)) :
    Calls Try.prog 15 #[.slice (some ⟨g, 0, none⟩) 3 3] W fun e w' => e = .returned (.int .i64 a) ∧ W = w' := by
  go_enter Try.func15, Try.ntmps15
  go_wp2
  go_loop [8] (fun i => i = .int .i64 0) (fun _ => 0)
  case atStart => rfl
  case round =>
    obtain rfl := hrel
    go_wp2
    go_ret
    exact ⟨rfl, rfl⟩
theorem or_none (W : World) (g : Nat) (h0 : W.cell? ⟨g, 0, none⟩ = some (.int .i64 0)) (h1 : W.cell? ⟨g, 1, none⟩ = some (.int .i64 0)) (h2 : W.cell? ⟨g, 2, none⟩ = some (.int .i64 0)) :
    Calls Try.prog 15 #[.slice (some ⟨g, 0, none⟩) 3 3] W fun e w' => e = .returned (.int .i64 0) ∧ W = w' := by
  go_enter Try.func15, Try.ntmps15
  go_wp2
  go_loop [8] (fun i => ∃ k : Nat, k ≤ 3 ∧ i = .int .i64 (k : Int)) (fun i => 3 - (intOf i).toNat)
  case atStart => exact ⟨0, by omega, rfl⟩
  case round =>
    obtain ⟨k, hk, rfl⟩ := hrel
    by_cases hlt : k < 3
    · have hc : W.cell? ⟨g, k, none⟩ = some (.int .i64 0) := by
        obtain rfl | rfl | rfl : k = 0 ∨ k = 1 ∨ k = 2 := by omega
        · exact h0
        · exact h1
        · exact h2
      clear h0 h1 h2
      go_wp2
      go_round
      case rel => exact ⟨k + 1, by omega, by go_num⟩
      case measure => simp [intOf]; omega
    · obtain rfl : k = 3 := by omega
      go_wp2
      go_ret
      exact ⟨rfl, rfl⟩

/-! ### Two numbers, of which one is known -/
def kv (b : Bool) : Int := if b then 3 else 2
abbrev enc (b : Bool) : Value := .int .i64 (kv b)
def cf (x y : Bool) : Int := if x = y then 0 else if x then 1 else -1
def rk (b : Bool) : Int := if b then 1 else 0
def fr (b : Bool) : Nat := if b then 0 else 4627520235931571509
theorem far_k (W : World) (p mb n : Nat) (R : Int → Option Value) (h : Ch W p mb 4586656397421424955 4588821589549968463 n R) (h2 : R 2 = some (.complex .f64 4613937818241073152 4616189618054758400)) (h3 : R 3 = none) (b : Bool) :
    Calls Try.prog 14 #[pt p, enc b] W fun e w' => e = .returned (.tuple #[.int .i64 (rk b), .float .f64 (fr b)]) ∧ W = w' := by
  cases b
  · exact far_some W p mb _ _ n R h 2 _ _ 13837208361714823483 13839426330401500239 4621105071194357081 4624928201414044945 4627520235931571509 (by decide) h2 (by decide) (by decide) (by decide) (by decide) (by decide)
  · exact far_none W p mb _ _ n R h 3 (by decide) h3
theorem fr_self (b : Bool) : FloatKind.f64.format.order (fr b) (fr b) = some .eq := by cases b <;> decide
def fo (x y : Bool) : Ordering := if x = y then .eq else if x then .lt else .gt
theorem fr_ord (x y : Bool) : FloatKind.f64.format.order (fr x) (fr y) = some (fo x y) := by cases x <;> cases y <;> decide
theorem cell_new (W : World) (cs : Array Value) (t : TypeId) (j : Nat) : (W.alloc (.cells cs t)).cell? ⟨W.heap.size, j, none⟩ = cs[j]? := by
  have := heap_alloc_new W (.cells cs t)
  simp only [World.cell?, this]; rfl
theorem or_k (W : World) (g : Nat) (x y : Bool) (h0 : W.cell? ⟨g, 0, none⟩ = some (.int .i64 (cmpv (rk x) (rk y)))) (h1 : W.cell? ⟨g, 1, none⟩ = some (.int .i64 (ov (fo x y)))) (h2 : W.cell? ⟨g, 2, none⟩ = some (.int .i64 (cmpv (kv x) (kv y)))) :
    Calls Try.prog 15 #[.slice (some ⟨g, 0, none⟩) 3 3] W fun e w' => e = .returned (.int .i64 (cf x y)) ∧ W = w' := by
  cases x <;> cases y
  · exact or_none W g h0 h1 h2
  · exact or_first W g (-1) (by decide) h0
  · exact or_first W g 1 (by decide) h0
  · exact or_none W g h0 h1 h2
set_option maxRecDepth 20000 in
set_option maxHeartbeats 1000000 in
theorem clo_c (W : World) (B p mb n : Nat) (R : Int → Option Value) (h : Ch W p mb 4586656397421424955 4588821589549968463 n R) (h2 : R 2 = some (.complex .f64 4613937818241073152 4616189618054758400)) (h3 : R 3 = none) (hB : W.cell? ⟨B, 0, none⟩ = some (pt p)) (x y : Bool) :
    Calls Try.prog 13 #[enc x, enc y, pt B] W fun e w' => e = .returned (.int .i64 (cf x y)) ∧ ∃ q os', w' = grow (W.drewN q) os' := by
  have hf := far_k W p mb n R h h2 h3
  have c1 := cmp_c (rk x) (rk y)
  have c2 := cmpf_c (fr x) (fr y) (fo x y) (fr_self x) (fr_self y) (fr_ord x y)
  have c3 := cmp_c (kv x) (kv y)
  clear h h2 h3
  go_enter Try.func13, Try.ntmps13
  go_wp2_with fail
  refine (hf x).mono ?_
  rintro e w' ⟨rfl, rfl⟩
  go_wp2_with fail
  refine (hf y).mono ?_
  rintro e w' ⟨rfl, rfl⟩
  go_wp2_with fail
  refine (c1 _).mono ?_
  rintro e w' ⟨rfl, rfl⟩
  go_wp2_with fail
  refine (c2 _).mono ?_
  rintro e w' ⟨rfl, rfl⟩
  go_wp2_with fail
  refine (c3 _).mono ?_
  rintro e w' ⟨rfl, rfl⟩
  go_wp2_with fail
  refine (or_k _ _ x y (cell_new _ _ _ 0) (cell_new _ _ _ 1) (cell_new _ _ _ 2)).mono ?_
  rintro e w' ⟨rfl, rfl⟩
  go_wp2_with fail
  go_ret
  exact ⟨rfl, 0, _, alloc_eq_grow _ _⟩
theorem gr_sorted (W : World) (blk m : Nat) (dk : Array Bool) (os : Array Obj) : Gr (fun k => k = blk) W (sortWorld enc W blk 0 m dk os) := by
  unfold sortWorld
  refine ⟨rfl, rfl, rfl, by simp, fun k hk hne => ?_⟩
  rw [heap_grow_old _ _ (by simpa using hk)]
  have : blk ≠ k := fun e => hne e.symm
  simp [putRow, mapBlock, Sort.ahead, Array.getElem?_modify, this]
/-- In every world that the sort passes through the closure answers so. -/
theorem lays (W : World) (B p mb n blk : Nat) (R : Int → Option Value) (h : Ch W p mb 4586656397421424955 4588821589549968463 n R) (h2 : R 2 = some (.complex .f64 4613937818241073152 4616189618054758400)) (h3 : R 3 = none) (hB : W.heap[B]? = some (.cells #[pt p] 25)) (e1 : B ≠ blk) (e2 : p ≠ blk) (e3 : mb ≠ blk) :
    CmpLays1 Try.prog 13 #[pt B] enc cf blk 0 2 W := by
  intro m os dk hs x y
  have hg := gr_sorted W blk m dk os
  have hc : (sortWorld enc W blk 0 m dk os).cell? ⟨B, 0, none⟩ = some (pt p) := by
    have := (hg.block B (lt_of_blk hB) e1).trans hB
    simp [World.cell?, this]
  exact clo_c _ B p mb n R (h.gr hg e2 e3) h2 h3 hc x y
theorem swo_cf : SWO (ltOf cf) := {
  irrefl := fun x => by cases x <;> decide
  trans := fun x y z h1 h2 => by revert h1 h2; cases x <;> cases y <;> cases z <;> decide
  ntrans := fun x y z h1 h2 => by revert h1 h2; cases x <;> cases y <;> cases z <;> decide }
end Go.Proofs.Ytedmfnleckelaaa
