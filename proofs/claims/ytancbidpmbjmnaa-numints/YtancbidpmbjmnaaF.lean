import Derived.Test.YtancbidpmbjmnaaE
import Derived.RegionTactic
import Derived.BigRegion
import Derived.ChangeAlike
import Derived.Deep.QuietTactic
import Derived.BigQuiet
import Derived.Deep.RegionWith
namespace Go.Proofs.Ytancbidpmbjmnaa
open Go.RowKit
set_option linter.unusedVariables false
theorem c_times (x y r : Nat) (w : World) (h : ∀ u, (binOp .mul 37 (.float .f64 x) (.float .f64 y)).run Try.prog u = .ok (.float .f64 r) u) :
    Calls Try.prog 29 #[.float .f64 x, .float .f64 y] w fun e w' => e = .returned (.float .f64 r) ∧ w' = w := by
  go_enter Try.func29, Try.ntmps29
  go_wp2
  go_ret
  exact ⟨rfl, rfl⟩
theorem c_minus (x y r : Nat) (w : World) (h : ∀ u, (binOp .sub 37 (.float .f64 x) (.float .f64 y)).run Try.prog u = .ok (.float .f64 r) u) :
    Calls Try.prog 27 #[.float .f64 x, .float .f64 y] w fun e w' => e = .returned (.float .f64 r) ∧ w' = w := by
  go_enter Try.func27, Try.ntmps27
  go_wp2
  go_ret
  exact ⟨rfl, rfl⟩
theorem c_plus (x y r : Nat) (w : World) (h : ∀ u, (binOp .add 37 (.float .f64 x) (.float .f64 y)).run Try.prog u = .ok (.float .f64 r) u) :
    Calls Try.prog 25 #[.float .f64 x, .float .f64 y] w fun e w' => e = .returned (.float .f64 r) ∧ w' = w := by
  go_enter Try.func25, Try.ntmps25
  go_wp2
  go_ret
  exact ⟨rfl, rfl⟩
theorem quiet_same2 {P : Program} {f : FuncId} {args : Array Value} {w : World} {k n : Nat} {v : Value}
    (h : Calls P f args (w.drewN (k + n)) fun e w' => e = .returned v ∧ w' = w.drewN (k + n)) : Calls P f args (w.drewN (k + n)) fun e w'' => e = .returned v ∧ ∃ m, w'' = w.drewN (k + m) :=
  h.mono fun _ _ ⟨he, hm⟩ => ⟨he, n, hm⟩
theorem Kp.drewN {a w : World} (h : Kp a w) (n : Nat) : Kp a (w.drewN n) := ⟨⟨h.below.os, h.below.tape, h.below.output, h.below.size, h.below.block⟩, h.frozen⟩
theorem Kp.carry {a b : World} (h : Kp a b) {n : Nat} {c : Array Value} (hn : n < a.heap.size) (hx : ∀ o, a.cell? ⟨n, o, none⟩ = c[o]?) : ∀ o, b.cell? ⟨n, o, none⟩ = c[o]? :=
  fun o => (h.below.cell (p := ⟨n, o, none⟩) hn).trans (hx o)
abbrev pt (p : Nat) : Value := .pointer (some ⟨p, 0, none⟩)
abbrev tabC (b p r q s : Nat) : Value := .agg #[.nilFunc, .func (.func 23) #[] #[pt p, pt r, pt q, pt s], .func (.func 26) #[] #[pt p, pt r, pt q, pt s], .func (.func 28) #[] #[pt p, pt r, pt q, pt s], .func (.func 30) #[] #[pt b, pt p, pt r, pt q, pt s]]
@[go_sem] theorem ixC3 (b p r q s : Nat) (w : World) : (Instr.index 47 (tabC b p r q s) (.int .i64 3)).run Try.prog w = .ok (.func (.func 28) #[] #[pt p, pt r, pt q, pt s]) w := by kernel_rfl
set_option maxHeartbeats 800000 in
theorem pairC_i (w : World) :
    Calls Try.prog 14 #[.complex .f64 0 4607182418800017408, .complex .f64 0 4607182418800017408] w fun e w' => ∃ b p r q s, e = .returned (tabC b p r q s) ∧ w'.cell? ⟨p, 0, none⟩ = some (.float .f64 0) ∧ w'.cell? ⟨r, 0, none⟩ = some (.float .f64 0) ∧ w'.cell? ⟨q, 0, none⟩ = some (.float .f64 4607182418800017408) ∧ w'.cell? ⟨s, 0, none⟩ = some (.float .f64 4607182418800017408) ∧ p < w'.heap.size ∧ r < w'.heap.size ∧ q < w'.heap.size ∧ s < w'.heap.size ∧ Kp w w' := by
  go_enter Try.func14, Try.ntmps14
  go_wp2
  go_region
  · go_wp2
    exact bodyPost_ret (v := tabC w.heap.size (w.heap.size + 1 + 1) (w.heap.size + 1 + 1 + 1 + 1) (w.heap.size + 1 + 1 + 1) (w.heap.size + 1 + 1 + 1 + 1 + 1)) (by simp [results, Try.results14, go_sem]) rfl ⟨_, _, _, _, _, rfl, by simp [go_sem], by simp [go_sem], by simp [go_sem], by simp [go_sem], by simp, by simp, by simp, by simp, Kp.drew (Kp.alloc (Kp.alloc (Kp.alloc (Kp.alloc (Kp.alloc (Kp.alloc (Kp.refl _) _ _) _ _) _ _) _ _) _ _) _ _)⟩
  · go_wp2
    exact bodyPost_ret (v := tabC w.heap.size (w.heap.size + 1 + 1) (w.heap.size + 1 + 1 + 1 + 1 + 1) (w.heap.size + 1 + 1 + 1) (w.heap.size + 1 + 1 + 1 + 1)) (by simp [results, Try.results14, go_sem]) rfl ⟨_, _, _, _, _, rfl, by simp [go_sem], by simp [go_sem], by simp [go_sem], by simp [go_sem], by simp, by simp, by simp, by simp, Kp.drew (Kp.alloc (Kp.alloc (Kp.alloc (Kp.alloc (Kp.alloc (Kp.alloc (Kp.refl _) _ _) _ _) _ _) _ _) _ _) _ _)⟩
set_option maxHeartbeats 800000 in
theorem mulC_i (w : World) (p r q s : Nat) (hp : w.cell? ⟨p, 0, none⟩ = some (.float .f64 0)) (hr : w.cell? ⟨r, 0, none⟩ = some (.float .f64 0)) (hq : w.cell? ⟨q, 0, none⟩ = some (.float .f64 4607182418800017408)) (hs : w.cell? ⟨s, 0, none⟩ = some (.float .f64 4607182418800017408)) (p1 : p < w.heap.size) (r1 : r < w.heap.size) (q1 : q < w.heap.size) (s1 : s < w.heap.size) :
    Calls Try.prog 28 #[pt p, pt r, pt q, pt s] w fun e w' => e = .returned (.tuple #[tCx 13830554455654793216 0, .int .i64 0]) ∧ Kp w w' := by
  go_enter Try.func28, Try.ntmps28
  go_wp2
  go_quiet (first | (go_at_call 29; exact Calls.quiet_of_same (c_times _ _ _ _ (by with_reducible first | exact mul00 | exact mul11 | exact mul01 | exact mul10))) | (go_at_call 27; exact Calls.quiet_of_same (c_minus _ _ _ _ (by exact sub01))) | (go_at_call 25; exact Calls.quiet_of_same (c_plus _ _ _ _ (by exact add00))))
  go_wp2
  go_quiet (first | (go_at_call 29; exact quiet_same2 (c_times _ _ _ _ (by with_reducible first | exact mul00 | exact mul11 | exact mul01 | exact mul10))) | (go_at_call 27; exact quiet_same2 (c_minus _ _ _ _ (by exact sub01))) | (go_at_call 25; exact quiet_same2 (c_plus _ _ _ _ (by exact add00))))
  go_wp2_with fail
  refine (cx_m _).mono ?_
  rintro e w1 ⟨rfl, hk1⟩
  obtain ⟨hc1, hf1, hz1⟩ := hk1.facts
  go_wp2
  exact bodyPost_ret (v := .tuple #[tCx 13830554455654793216 0, .int .i64 0]) (by simp [results, Try.results28, go_sem, hc1]) rfl ⟨rfl, Kp.set9 ((((Kp.refl w).alloc _ _).drewN _).trans hk1) _ (Nat.le_refl _) _ _ _ _ _ _ _ _ _⟩
set_option maxHeartbeats 800000 in
theorem doCx_i (w : World) :
    Calls Try.prog 10 #[.int .i64 3, .complex .f64 0 4607182418800017408, .complex .f64 0 4607182418800017408] w fun e w' => e = .returned (.tuple #[tCx 13830554455654793216 0, .int .i64 0]) ∧ Kp w w' := by
  go_enter Try.func10, Try.ntmps10
  go_wp2_with fail
  refine (pairC_i _).mono ?_
  rintro e w1 ⟨b, p, r, q, s, rfl, hp, hr, hq, hs, p1, r1, q1, s1, hk1⟩
  obtain ⟨hc1, hf1, hz1⟩ := hk1.facts
  have HK1 : Hid _ := hk1
  clear hk1
  have hy1 : w.heap.size < w1.heap.size := (by simp at hz1; omega)
  clear hz1
  go_wp2_with fail
  refine (mulC_i _ _ _ _ _ hp hr hq hs p1 r1 q1 s1).mono ?_
  rintro e w2 ⟨rfl, hk2⟩
  obtain ⟨hc2, hf2, hz2⟩ := hk2.facts
  go_wp2
  exact bodyPost_ret (v := .tuple #[tCx 13830554455654793216 0, .int .i64 0]) (by simp [results, Try.results10, go_sem, hc1, hc2, hy1]) rfl ⟨rfl, Kp.set9 ((((Kp.refl w).alloc _ _).trans HK1.out).trans hk2) _ (Nat.le_refl _) _ _ _ _ _ _ _ _ _⟩
set_option maxHeartbeats 800000 in
theorem doCx_z (w : World) (x y : Nat) :
    Calls Try.prog 10 #[.int .i64 4, .complex .f64 x y, .complex .f64 0 0] w fun e w' => e = .returned (.tuple #[tNum 0 0, .int .i64 11]) ∧ Kp w w' := by
  go_enter Try.func10, Try.ntmps10
  go_wp2_with fail
  exact bodyPost_ret (v := .tuple #[tNum 0 0, .int .i64 11]) (by simp [results, Try.results10, go_sem]) rfl ⟨rfl, (Kp.refl _).alloc _ _⟩
@[go_sem] theorem conv1 (w : World) : (convert 2 37 (.int .i64 1)).run Try.prog w = .ok (.float .f64 4607182418800017408) w := by kernel_rfl
set_option maxHeartbeats 800000 in
theorem as_1 (w : World) : Calls Try.prog 11 #[tNum 1 1] w fun e w' => e = .returned (.complex .f64 4607182418800017408 0) ∧ Kp w w' := by
  go_enter Try.func11, Try.ntmps11
  go_wp2
  go_ret
  exact ⟨rfl, (Kp.refl _).alloc _ _⟩
set_option maxHeartbeats 1000000 in
theorem do_i (w : World) :
    Calls Try.prog 6 #[.int .i64 3, tCx 0 4607182418800017408, tCx 0 4607182418800017408] w fun e w' => e = .returned (.tuple #[tCx 13830554455654793216 0, .int .i64 0]) ∧ Kp w w' := by
  go_enter Try.func6, Try.ntmps6
  go_wp2_with fail
  refine (right_i _).mono ?_
  rintro e w1 ⟨rfl, hk1⟩
  obtain ⟨hc1, hf1, hz1⟩ := hk1.facts
  have HK1 : Hid _ := hk1
  clear hk1
  have hy1 : w.heap.size + 1 + 1 < w1.heap.size := (by simp at hz1; omega)
  have ha1 : w.heap.size < w1.heap.size := (by omega)
  have hb1 : w.heap.size + 1 < w1.heap.size := (by omega)
  clear hz1
  go_wp2_with fail
  refine (right_i _).mono ?_
  rintro e w2 ⟨rfl, hk2⟩
  obtain ⟨hc2, hf2, hz2⟩ := hk2.facts
  have HK2 : Hid _ := hk2
  clear hk2
  have hy2 : w.heap.size + 1 + 1 < w2.heap.size := (by omega)
  have ha2 : w.heap.size < w2.heap.size := (by omega)
  have hb2 : w.heap.size + 1 < w2.heap.size := (by omega)
  clear hz2
  go_wp2_with fail
  have HK : Hid (Kp w w2) := (((((Kp.refl w).alloc _ _).alloc _ _).alloc _ _).trans HK1.out).trans HK2.out
  have hx0 : ∀ o, w2.cell? ⟨w.heap.size, o, none⟩ = #[.int .i64 2, .int .i64 0, .complex .f64 0 4607182418800017408, .string { data := #[] }, .int .i64 0, .int .u32 0, .int .u64 0, .slice none 0 0, .slice none 0 0][o]? := fun o => by rw [hc2 _ _ ha1, hc1 _ _ (by simp; omega)]; simp [go_sem]
  have hx1 : ∀ o, w2.cell? ⟨w.heap.size + 1, o, none⟩ = #[.int .i64 2, .int .i64 0, .complex .f64 0 4607182418800017408, .string { data := #[] }, .int .i64 0, .int .u32 0, .int .u64 0, .slice none 0 0, .slice none 0 0][o]? := fun o => by rw [hc2 _ _ hb1, hc1 _ _ (by simp)]; simp [go_sem]
  have hx2 : ∀ o, w2.cell? ⟨w.heap.size + 1 + 1, o, none⟩ = #[.int .i64 0, .int .i64 0, .complex .f64 0 0, .string { data := #[] }, .int .i64 0, .int .u32 0, .int .u64 0, .slice none 0 0, .slice none 0 0][o]? := fun o => by rw [hc2 _ _ hy1, hc1 _ _ (by simp)]; simp [go_sem]
  have hxf : ∀ o, w2.frozen? ⟨w.heap.size + 1 + 1, o, none⟩ = false := fun o => by rw [hf2, hf1]; simp [go_sem]
  clear hc1 hc2 hf1 hf2 HK1 HK2 hy1 ha1 hb1
  go_region_with (first | (go_at_call 11; refine (as_i _).mono ?_; rintro e w3 ⟨rfl, hk3⟩; replace HK : Hid (Kp w w3) := (by first | exact HK.out.trans hk3 | exact HK.out.drew.trans hk3); replace hx0 := hk3.carry ha2 hx0; replace hx1 := hk3.carry hb2 hx1; replace hx2 := hk3.carry hy2 hx2; replace hxf : ∀ o, w3.frozen? ⟨w.heap.size + 1 + 1, o, none⟩ = false := (fun o => (hk3.frozen _).trans (hxf o)); replace ha2 := Nat.lt_of_lt_of_le ha2 hk3.size; replace hb2 := Nat.lt_of_lt_of_le hb2 hk3.size; replace hy2 := Nat.lt_of_lt_of_le hy2 hk3.size; clear hk3) | (go_at_call 10; refine (doCx_i _).mono ?_; rintro e w4 ⟨rfl, hk4⟩; replace HK : Hid (Kp w w4) := (by first | exact HK.out.trans hk4 | exact HK.out.drew.trans hk4); replace hx0 := hk4.carry ha2 hx0; replace hx1 := hk4.carry hb2 hx1; replace hx2 := hk4.carry hy2 hx2; replace hxf : ∀ o, w4.frozen? ⟨w.heap.size + 1 + 1, o, none⟩ = false := (fun o => (hk4.frozen _).trans (hxf o)); replace ha2 := Nat.lt_of_lt_of_le ha2 hk4.size; replace hb2 := Nat.lt_of_lt_of_le hb2 hk4.size; replace hy2 := Nat.lt_of_lt_of_le hy2 hk4.size; clear hk4))
  all_goals
    go_wp2
    exact bodyPost_ret (v := .tuple #[tCx 13830554455654793216 0, .int .i64 0]) (by simp [results, Try.results6, go_sem, hx2]) rfl ⟨rfl, Kp.set9 HK.out _ (by omega) _ _ _ _ _ _ _ _ _⟩
end Go.Proofs.Ytancbidpmbjmnaa
