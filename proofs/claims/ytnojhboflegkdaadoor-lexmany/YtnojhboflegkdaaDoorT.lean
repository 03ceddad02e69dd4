/-
  The walk of LexMany.
-/
import Derived.Test.YtnojhboflegkdaaDoorS
set_option linter.unusedVariables false
set_option linter.unusedSimpArgs false
namespace Go.Proofs.YtnojhboflegkdaaDoor
open Go.RowKit Go.Maps

/-- What Scan tells of so many tokens. -/
theorem scan_many (u : ByteArray) (N P : Nat) (h1 : N ≤ 4000 → ∃ l, scanV u = .ok l ∧ l.length = N) (h2 : 4000 < N → scanV u = .error (P, 155)) (w : World) (hE : Er w) (hS : Sg w) :
    Calls Tryd.prog 10 #[.string u] w fun e w' => (∃ a c, N ≤ 4000 ∧ e = .returned (.tuple #[.slice a N c, .int .i64 0, .int .i64 0]) ∧ Gr (fun _ => False) w w') ∨ (4000 < N ∧ e = .returned (.tuple #[nl, .int .i64 (P : Int), .int .i64 155]) ∧ Gr (fun _ => False) w w') := by
  refine (scan_c w u hE hS).mono ?_
  intro e w' h
  by_cases hN : N ≤ 4000
  · obtain ⟨l, hl, rfl⟩ := h1 hN
    rw [hl] at h
    obtain ⟨sv, vs, rfl, hT, hg⟩ := h
    obtain ⟨a, c, rfl⟩ := hT.sv
    exact .inl ⟨a, c, hN, rfl, hg⟩
  · rw [h2 (by omega)] at h
    exact .inr ⟨by omega, h.1, h.2⟩

theorem many_out (W : World) (n : Int) (q : Bool) (ho : n < 0 ∨ 8000 < n) (ha : Calls Tryd.prog 9 #[] W fun e w' => e = .returned (.bool true) ∧ Gr (fun _ => False) W w') :
    Calls Tryd.prog 8 #[.int .i64 n, .bool q] W fun e w' => e = .returned (.bool true) ∧ Gr (fun _ => False) W w' := by
  rcases ho with ho | ho
  all_goals
    go_enter Tryd.func8, Tryd.ntmps8
    go_wp2_with fail
    refine ha.mono ?_
    rintro e w1 ⟨rfl, hg1⟩
    go_wp2_with fail
    go_ret
    exact ⟨rfl, hg1⟩

set_option maxRecDepth 100000 in
set_option maxHeartbeats 2000000 in
theorem many_in_a (W : World) (n : Nat) (hn : n ≤ 8000) (ha : Calls Tryd.prog 9 #[] W fun e w' => e = .returned (.bool true) ∧ Gr (fun _ => False) W w')
    (hp : ∀ w, Gr (fun _ => False) W w → Calls Tryd.prog 10 #[.string (sb (rp 97 32 n))] w fun e w' => (∃ a c, n ≤ 4000 ∧ e = .returned (.tuple #[.slice a n c, .int .i64 0, .int .i64 0]) ∧ Gr (fun _ => False) w w') ∨ (4000 < n ∧ e = .returned (.tuple #[nl, .int .i64 ((8000 : Nat) : Int), .int .i64 155]) ∧ Gr (fun _ => False) w w')) :
    Calls Tryd.prog 8 #[.int .i64 (n : Int), .bool false] W fun e w' => e = .returned (.bool true) ∧ Gr (fun _ => False) W w' := by
  have hnI : (n : Int) ≤ 8000 := by omega
  replace hn := Lib.hid hn
  obtain ⟨u, hu⟩ : ∃ u, sb (rp 97 32 n) = u := ⟨_, rfl⟩
  rw [hu] at hp
  have Hu := Lib.hid hu
  clear hu
  go_enter Tryd.func8, Tryd.ntmps8
  go_wp2_with fail
  refine ha.mono ?_
  rintro e w1 ⟨rfl, hg1⟩
  have o0 := Ob.lit w1.heap.size w1 [] (by simp) (Nat.le_refl _) #[] rfl 0 rfl
  have g0 : Gr (fun _ => False) w1 (w1.alloc (.cells #[] 5)) := Gr.alloc _ _ _
  clear ha
  go_wp2_with fail
  go_loopw [6, 7] (fun b i wr => ∃ k : Nat, k ≤ n ∧ i = .int .i64 (k : Int) ∧ Hid (Ob w1.heap.size wr b (rp 97 32 k)) ∧ Hid (Gr (fun _ => False) w1 wr)) (fun _ i _ => n - (intOf i).toNat)
  case atStart => exact ⟨0, Nat.zero_le _, rfl, o0, g0⟩
  case round =>
    obtain ⟨k, hk, rfl, Ho, hg⟩ := hrel
    clear o0 g0
    have hbw : w1.heap.size ≤ wr.heap.size := hg.out.size
    have ho := Ho.out
    obtain ⟨ba, bc, rfl⟩ := ho.sv
    by_cases hlt : k < n
    · have hkI : (k : Int) < (n : Int) := by omega
      have hlen : Hid ((rp 97 32 k).length + 2 ≤ 1000000) := by rw [rp_len]; have := hn.out; show _ ≤ _; omega
      go_wp2_with (first
        | (at_builtin; refine wpList_aps rfl _ _ rfl w1.heap.size _ ⟨#[97, 32]⟩ (rp 97 32 k) rfl rfl ho hlen.out hbw ?_; intro v1 w2 o1 g1; replace o1 := Lib.hid o1; replace g1 := Lib.hid g1))
      exact ⟨⟨k + 1, by omega, by go_num, (by have := o1.out; rw [rp_succ]; exact this), hg.out.trans' (g1.out.far ho) (fun i hi h => by omega)⟩, by simp [intOf]; omega⟩
    · obtain rfl : k = n := by omega
      have hcv := conv_sb ho.sb
      rw [Hu.out] at hcv
      have hG := hg1.trans hg.out
      by_cases h4 : k ≤ 4000
      · have h4I : (k : Int) ≤ 4000 := by omega
        go_wp2_with fail
        refine (hp _ hG).mono ?_
        rintro e w5 (⟨a, c, _, rfl, hg5⟩ | ⟨h5, _⟩)
        · go_wp2_with fail
          go_ret
          exact ⟨by simp, hG.trans hg5⟩
        · omega
      · have h4I : decide ((k : Int) ≤ 4000) = false := by simp; omega
        go_wp2_with fail
        refine (hp _ hG).mono ?_
        rintro e w5 (⟨a, c, h5, _⟩ | ⟨_, rfl, hg5⟩)
        · omega
        · go_wp2_with fail
          go_ret
          exact ⟨by simp, hG.trans hg5⟩

set_option maxRecDepth 100000 in
set_option maxHeartbeats 2000000 in
theorem many_in_c (W : World) (m n : Nat) (hmn : m / 2 = n) (hn : m ≤ 8000) (ha : Calls Tryd.prog 9 #[] W fun e w' => e = .returned (.bool true) ∧ Gr (fun _ => False) W w')
    (hp : ∀ w, Gr (fun _ => False) W w → Calls Tryd.prog 10 #[.string (sb (rp 44 44 n))] w fun e w' => (∃ a c, 2 * n ≤ 4000 ∧ e = .returned (.tuple #[.slice a (2 * n) c, .int .i64 0, .int .i64 0]) ∧ Gr (fun _ => False) w w') ∨ (4000 < 2 * n ∧ e = .returned (.tuple #[nl, .int .i64 ((4000 : Nat) : Int), .int .i64 155]) ∧ Gr (fun _ => False) w w')) :
    Calls Tryd.prog 8 #[.int .i64 (m : Int), .bool true] W fun e w' => e = .returned (.bool true) ∧ Gr (fun _ => False) W w' := by
  have hmI : (m : Int) ≤ 8000 := by omega
  have hnI : (n : Int) ≤ 4000 := by omega
  have d1 : Int.tdiv (m : Int) 2 = (n : Int) := by rw [Int.tdiv_eq_ediv_of_nonneg (by omega)]; omega
  have d2 : (m : Int) / 2 = (n : Int) := by omega
  have hn2 : Hid (n ≤ 4000) := by show _ ≤ _; omega
  clear hmn hn
  obtain ⟨u, hu⟩ : ∃ u, sb (rp 44 44 n) = u := ⟨_, rfl⟩
  rw [hu] at hp
  have Hu := Lib.hid hu
  clear hu
  go_enter Tryd.func8, Tryd.ntmps8
  go_wp2_with fail
  refine ha.mono ?_
  rintro e w1 ⟨rfl, hg1⟩
  have o0 := Ob.lit w1.heap.size w1 [] (by simp) (Nat.le_refl _) #[] rfl 0 rfl
  have g0 : Gr (fun _ => False) w1 (w1.alloc (.cells #[] 5)) := Gr.alloc _ _ _
  clear ha
  go_wp2_with fail
  go_loopw [6, 7] (fun b i wr => ∃ k : Nat, k ≤ n ∧ i = .int .i64 (k : Int) ∧ Hid (Ob w1.heap.size wr b (rp 44 44 k)) ∧ Hid (Gr (fun _ => False) w1 wr)) (fun _ i _ => n - (intOf i).toNat)
  case atStart => exact ⟨0, Nat.zero_le _, rfl, o0, g0⟩
  case round =>
    obtain ⟨k, hk, rfl, Ho, hg⟩ := hrel
    clear o0 g0
    have hbw : w1.heap.size ≤ wr.heap.size := hg.out.size
    have ho := Ho.out
    obtain ⟨ba, bc, rfl⟩ := ho.sv
    by_cases hlt : k < n
    · have hkI : (k : Int) < (n : Int) := by omega
      have hlen : Hid ((rp 44 44 k).length + 2 ≤ 1000000) := by rw [rp_len]; have := hn2.out; show _ ≤ _; omega
      go_wp2_with (first
        | (at_builtin; refine wpList_aps rfl _ _ rfl w1.heap.size _ ⟨#[44, 44]⟩ (rp 44 44 k) rfl rfl ho hlen.out hbw ?_; intro v1 w2 o1 g1; replace o1 := Lib.hid o1; replace g1 := Lib.hid g1))
      exact ⟨⟨k + 1, by omega, by go_num, (by have := o1.out; rw [rp_succ]; exact this), hg.out.trans' (g1.out.far ho) (fun i hi h => by omega)⟩, by simp [intOf]; omega⟩
    · obtain rfl : k = n := by omega
      have hcv := conv_sb ho.sb
      rw [Hu.out] at hcv
      have hG := hg1.trans hg.out
      by_cases h4 : 2 * k ≤ 4000
      · have h4I : 2 * (k : Int) ≤ 4000 := by omega
        go_wp2_with fail
        refine (hp _ hG).mono ?_
        rintro e w5 (⟨a, c, _, rfl, hg5⟩ | ⟨h5, _⟩)
        · go_wp2_with fail
          go_ret
          exact ⟨by simp, hG.trans hg5⟩
        · omega
      · have h4I : decide (2 * (k : Int) ≤ 4000) = false := by simp; omega
        go_wp2_with fail
        refine (hp _ hG).mono ?_
        rintro e w5 (⟨a, c, h5, _⟩ | ⟨_, rfl, hg5⟩)
        · omega
        · go_wp2_with fail
          go_ret
          exact ⟨by simp, hG.trans hg5⟩

theorem many_walk (n : Int) (q : Bool) (W : World) (hE : Er W) (hS : Sg W) (hT : Tb W) : Calls Tryd.prog 8 #[.int .i64 n, .bool q] W fun e w' => e = .returned (.bool true) ∧ Gr (fun _ => False) W w' := by
  have ha := alive_c W hE hS hT
  by_cases ho : n < 0 ∨ 8000 < n
  · exact many_out W n q ho ha
  obtain ⟨m, rfl⟩ : ∃ m : Nat, n = m := ⟨n.toNat, by omega⟩
  cases q with
  | false => exact many_in_a W m (by omega) ha (fun w g => scan_many _ m 8000 (many_a m (by omega)).1 (many_a m (by omega)).2 w (hE.gr g (fun e => e)) (hS.gr g (fun e => e)))
  | true => exact many_in_c W m _ rfl (by omega) ha (fun w g => scan_many _ _ 4000 (many_c (m / 2) (by omega)).1 (many_c (m / 2) (by omega)).2 w (hE.gr g (fun e => e)) (hS.gr g (fun e => e)))
end Go.Proofs.YtnojhboflegkdaaDoor
