/-
  FrameBursts' walk.
-/
import Derived.Test.YtnaapgjjombdpaaR
namespace Go.Proofs.Ytnaapgjjombdpaa
open Go.RowKit Go.Maps
variable {S S' : Nat → Prop} {W W1 W' : World}

/-- Bits turned from place K on, as many as j. -/
def bur (l : List Nat) (K M : Nat) : Nat → List Nat
  | 0 => l
  | j + 1 => if M / 2 ^ j % 2 = 1 then (bur l K M j).set ((K + j) / 8) ((bur l K M j).getD ((K + j) / 8) 0 ^^^ 2 ^ ((K + j) % 8)) else bur l K M j
theorem bur_len (l : List Nat) (K M j : Nat) : (bur l K M j).length = l.length := by
  induction j with
  | zero => rfl
  | succ j ih => unfold bur; split <;> simp [ih]
theorem bur_le (l : List Nat) (K M j : Nat) (h : K + j ≤ 8 * l.length) : le (bur l K M j) = le l ^^^ ((M % 2 ^ j) <<< K) := by
  induction j with
  | zero => simp [bur, Nat.mod_one]
  | succ j ih =>
    have e := xor_split M j 1
    have ih := ih (by omega)
    unfold bur
    split
    · rename_i h1
      rw [le_set _ _ _ (by rw [bur_len]; omega), ih, Nat.xor_assoc, ← e, Nat.pow_one, h1, Nat.shiftLeft_xor_distrib]
      congr 2
      rw [← Nat.shiftLeft_add, Nat.shiftLeft_eq, Nat.shiftLeft_eq, ← Nat.pow_add, Nat.one_mul]
      congr 1
      omega
    · rename_i h1
      have h0 : M / 2 ^ j % 2 = 0 := by omega
      rw [ih, ← e, Nat.pow_one, h0, Nat.zero_shiftLeft, Nat.xor_zero]
theorem bit_no {M j : Nat} (h : M / 2 ^ j % 2 = 0) : M % 2 ^ (j + 1) = M % 2 ^ j := by
  rw [← xor_split M j 1, Nat.pow_one, h, Nat.zero_shiftLeft, Nat.xor_zero]
theorem bit_yes {M j : Nat} (h : M / 2 ^ j % 2 = 1) : M % 2 ^ (j + 1) ≠ 0 := by
  rw [← xor_split M j 1, Nat.pow_one, h]
  intro e
  have := xor_zero_iff e
  rw [Nat.shiftLeft_eq, Nat.one_mul] at this
  have hl : M % 2 ^ j < 2 ^ j := Nat.mod_lt _ (Nat.two_pow_pos j)
  omega

set_option maxRecDepth 20000 in
set_option maxHeartbeats 1000000 in
theorem burst_k (W : World) (f t bo : Nat) (v : Value) (l : List Nat) (at_ : Int) (M : Nat) (h : Sl W v l) (hbo : bo < 4294967296) (hc : chk f t bo l.length = 0) (hM : M < 4294967296)
    (ha : 0 ≤ at_) (hat : at_ ≤ 9223372036854775807) (K : Nat) (hK : at_.tmod (8 * (l.length : Int) + 65) = K) (hKl : K < 8 * l.length + 65) :
    Calls Try.prog 7 #[fr f t bo v, .int .i64 at_, .int .u32 (M : Int)] W fun e W' => e = .returned (.bool true) ∧ Below W.heap.size W W' := by
  obtain ⟨wi, hwi⟩ : ∃ wi, wire f t bo l = wi := ⟨_, rfl⟩
  obtain ⟨p1, -, -, -, -, p6⟩ := opn_wire f t bo l hc
  rw [hwi] at p1 p6
  have hp := fun w h => pack_yes' w f t bo v l wi h hbo hc hwi
  have q00 : (l.length : Int) ≤ 1200 := by have := (chk_zero hc).2.2.2.2.2.2; omega
  rw [p6] at hp
  replace p1 := Lib.hid p1
  clear hc hwi
  obtain ⟨a, cap, rfl, h1, h2, -⟩ := h.sv
  have g0 : G0 W (W.alloc (.cells #[.int .i64 f, .int .i64 t, .int .u32 bo, .slice a l.length cap] 28)) := Gr.alloc _ _ _
  have i3 : ¬ at_ < 0 := by omega
  have i4 : 8 * ((l.length : Int) + 12) - 31 = 8 * (l.length : Int) + 65 := by omega
  have i5 : (8 * (l.length : Int) + 65 == 0) = false := by simp; omega
  have i6 : ¬ 8 * (l.length : Int) + 65 = 0 := by omega
  go_enter Try.func7, Try.ntmps7
  go_wp2_with fail
  refine (alive_c _).mono ?_
  rintro e w1 ⟨rfl, hg1⟩
  have f1 := fr_cells ((hg1.block W.heap.size (by simp) (fun e => e)).trans (heap_alloc_new W _))
  go_wp2_with fail
  refine (hp _ ((h.g0 g0).g0 hg1)).mono ?_
  rintro e w2 ⟨x2, c2, rfl, ow2, hg2⟩
  have gg := (g0.trans hg1).trans hg2
  have hs2 : W.heap.size ≤ w1.heap.size := (g0.trans hg1).size
  rw [← p6] at ow2
  obtain ⟨g, cap2, e2, hgb⟩ := ow2.form (List.ne_nil_of_length_pos (by omega))
  rw [e2] at ow2
  rw [p6] at e2 ow2
  obtain ⟨rfl, rfl⟩ : x2 = some ⟨g, 0, none⟩ ∧ cap2 = c2 := by cases e2; exact ⟨rfl, rfl⟩
  clear e2
  have hgb2 : W.heap.size ≤ g := by omega
  go_wp2_with fail
  go_loopw [9, 10] (fun ch i wr => ∃ j : Nat, j ≤ 32 ∧ i = .int .i64 (j : Int) ∧ ch = .bool (decide (M % 2 ^ j ≠ 0)) ∧ Ow w1.heap.size wr (.slice (some ⟨g, 0, none⟩) (l.length + 12) cap2) (bur wi K M j) ∧ Gr (fun i => w1.heap.size ≤ i) w1 wr) (fun _ i _ => 32 - (intOf i).toNat)
  case atStart => exact ⟨0, by omega, rfl, by simp [Nat.mod_one], ow2, hg2.mono (fun _ _ e => e.elim)⟩
  case round =>
    obtain ⟨j, hj, rfl, rfl, ho, hgr⟩ := hrel
    by_cases hj4 : j < 32
    · have hjI : (j : Int) < 32 := by omega
      have hKI : (K : Int) ≤ 9664 := by omega
      have tq : ((M : Int) / 2 ^ j).tmod 2 = ((M / 2 ^ j % 2 : Nat) : Int) := by
        rw [Int.tmod_eq_emod_of_nonneg (Int.ediv_nonneg (by omega) (Int.le_of_lt (Int.pow_pos (by decide))))]; push_cast; rfl
      rcases Nat.mod_two_eq_zero_or_one (M / 2 ^ j) with hb | hb
      · rw [hb] at tq
        have hbn := bit_no hb
        have hbu : bur wi K M (j + 1) = bur wi K M j := by rw [bur, if_neg (by omega)]
        go_wp2_with fail
        exact ⟨⟨j + 1, by omega, by go_num, by rw [hbn], by rw [hbu]; exact ho, hgr⟩, by simp [intOf]; omega⟩
      · rw [hb] at tq
        have hby := bit_yes hb
        have hlt : (K + j) / 8 < (bur wi K M j).length := by rw [bur_len]; omega
        obtain ⟨cj, fj⟩ := ho.cell ((bur_len wi K M j).trans p6).symm (j := (K + j) / 8) hlt
        have hyl := getD_lt ho.byte ((K + j) / 8)
        have hbu : bur wi K M (j + 1) = (bur wi K M j).set ((K + j) / 8) ((bur wi K M j).getD ((K + j) / 8) 0 ^^^ 2 ^ ((K + j) % 8)) := by rw [bur, if_pos hb]
        obtain ⟨y, hy⟩ : ∃ y, (bur wi K M j).getD ((K + j) / 8) 0 = y := ⟨_, rfl⟩
        rw [hy] at cj hyl hbu
        have hp8 : 2 ^ ((K + j) % 8) < 256 ∧ (2 : Int) ^ ((K + j) % 8) % 256 = ((2 ^ ((K + j) % 8) : Nat) : Int) := by
          have hm : (K + j) % 8 < 8 := Nat.mod_lt _ (by decide)
          generalize (K + j) % 8 = m at hm
          match m, hm with
          | 0, _ => decide
          | 1, _ => decide
          | 2, _ => decide
          | 3, _ => decide
          | 4, _ => decide
          | 5, _ => decide
          | 6, _ => decide
          | 7, _ => decide
        have ex : bits .xor .u8 (y : Int) (2 ^ ((K + j) % 8) % 256) = ((y ^^^ 2 ^ ((K + j) % 8) : Nat) : Int) := by
          rw [hp8.2]; exact u8_xor_nat _ _ hyl hp8.1
        have hst := ho.stored ((bur_len wi K M j).trans p6).symm ((K + j) / 8) (y ^^^ 2 ^ ((K + j) % 8)) (Nat.xor_lt_two_pow (n := 8) hyl hp8.1)
        have hgs := hgr.trans (Gr.set (S := fun i => w1.heap.size ≤ i) wr ⟨g, (K + j) / 8, none⟩ (.int .u8 ((y ^^^ 2 ^ ((K + j) % 8) : Nat) : Int)) hgb)
        rw [← ex] at hst hgs
        rw [← hbu] at hst
        replace hst := Lib.hid hst
        replace hgs := Lib.hid hgs
        clear ex hp8 hy hlt
        go_wp2_with fail
        exact ⟨⟨j + 1, by omega, by go_num, by simp [hby], hst.out, hgs.out⟩, by simp [intOf]; omega⟩
    · obtain rfl : j = 32 := by omega
      have hgz : G0 W wr := (g0.trans hg1).new hgr hs2
      have hle := bur_le wi K M 32 (by omega)
      rw [Nat.mod_eq_of_lt hM] at hle
      by_cases hM0 : M = 0
      · have hd : decide (M % 2 ^ 32 ≠ 0) = false := by simp [hM0]
        have hbe : bur wi K M 32 = wi := by
          have : ∀ j, bur wi K 0 j = wi := by
            intro j
            induction j with
            | zero => rfl
            | succ j ih => rw [bur, if_neg (by simp), ih]
          rw [hM0, this]
        rw [hbe] at ho
        have hq := fun w v h => (open_c w v wi h)
        rw [hd]
        clear hd hle hbe hM0
        go_wp2_with fail
        refine (hq _ _ ho.sl).mono ?_
        rintro e w5 ⟨hg5, ⟨hn, -⟩ | ⟨-, v5, rfl, ow5⟩⟩
        · exact absurd p1.out hn
        obtain ⟨x5, c5, rfl⟩ := ow5.sv
        go_wp2_with fail
        go_ret
        exact ⟨rfl, ((hgz.trans hg5).trans (Gr.alloc _ _ _)).below (Nat.le_refl _) (fun _ e => e.elim)⟩
      · have hd : decide (M % 2 ^ 32 ≠ 0) = true := by
          rw [Nat.mod_eq_of_lt hM]; simpa using hM0
        have h64 := opn_burst wi (bur wi K M 32) M K ow2.byte ho.byte p1.out (bur_len wi K M 32) hM hM0 (by omega) hle
        have hq := fun w v h => open_no' w v (bur wi K M 32) h 64 h64 (by decide)
        rw [hd]
        clear hd hle hM0 h64
        go_wp2_with fail
        refine (hq _ _ ho.sl).mono ?_
        rintro e w5 ⟨rfl, hg5⟩
        go_wp2_with fail
        go_ret
        exact ⟨rfl, ((hgz.trans hg5).trans (Gr.alloc _ _ _)).below (Nat.le_refl _) (fun _ e => e.elim)⟩
set_option maxRecDepth 20000 in
set_option maxHeartbeats 1000000 in
theorem burst_n (W : World) (f t bo : Nat) (v : Value) (l : List Nat) (at_ : Int) (M : Nat) (h : Sl W v l) (hbo : bo < 4294967296) (hc : chk f t bo l.length = 0) (hM : M < 4294967296)
    (ha : at_ < 0) (hat : -9223372036854775808 ≤ at_) (K : Nat) (hK : (-(at_ + 1)).tmod (8 * (l.length : Int) + 65) = K) (hKl : K < 8 * l.length + 65) :
    Calls Try.prog 7 #[fr f t bo v, .int .i64 at_, .int .u32 (M : Int)] W fun e W' => e = .returned (.bool true) ∧ Below W.heap.size W W' := by
  obtain ⟨wi, hwi⟩ : ∃ wi, wire f t bo l = wi := ⟨_, rfl⟩
  obtain ⟨p1, -, -, -, -, p6⟩ := opn_wire f t bo l hc
  rw [hwi] at p1 p6
  have hp := fun w h => pack_yes' w f t bo v l wi h hbo hc hwi
  have q00 : (l.length : Int) ≤ 1200 := by have := (chk_zero hc).2.2.2.2.2.2; omega
  rw [p6] at hp
  replace p1 := Lib.hid p1
  clear hc hwi
  obtain ⟨a, cap, rfl, h1, h2, -⟩ := h.sv
  have g0 : G0 W (W.alloc (.cells #[.int .i64 f, .int .i64 t, .int .u32 bo, .slice a l.length cap] 28)) := Gr.alloc _ _ _
  have i4 : 8 * ((l.length : Int) + 12) - 31 = 8 * (l.length : Int) + 65 := by omega
  have i5 : (8 * (l.length : Int) + 65 == 0) = false := by simp; omega
  have i6 : ¬ 8 * (l.length : Int) + 65 = 0 := by omega
  go_enter Try.func7, Try.ntmps7
  go_wp2_with fail
  refine (alive_c _).mono ?_
  rintro e w1 ⟨rfl, hg1⟩
  have f1 := fr_cells ((hg1.block W.heap.size (by simp) (fun e => e)).trans (heap_alloc_new W _))
  go_wp2_with fail
  refine (hp _ ((h.g0 g0).g0 hg1)).mono ?_
  rintro e w2 ⟨x2, c2, rfl, ow2, hg2⟩
  have gg := (g0.trans hg1).trans hg2
  have hs2 : W.heap.size ≤ w1.heap.size := (g0.trans hg1).size
  rw [← p6] at ow2
  obtain ⟨g, cap2, e2, hgb⟩ := ow2.form (List.ne_nil_of_length_pos (by omega))
  rw [e2] at ow2
  rw [p6] at e2 ow2
  obtain ⟨rfl, rfl⟩ : x2 = some ⟨g, 0, none⟩ ∧ cap2 = c2 := by cases e2; exact ⟨rfl, rfl⟩
  clear e2
  have hgb2 : W.heap.size ≤ g := by omega
  go_wp2_with fail
  go_loopw [9, 10] (fun ch i wr => ∃ j : Nat, j ≤ 32 ∧ i = .int .i64 (j : Int) ∧ ch = .bool (decide (M % 2 ^ j ≠ 0)) ∧ Ow w1.heap.size wr (.slice (some ⟨g, 0, none⟩) (l.length + 12) cap2) (bur wi K M j) ∧ Gr (fun i => w1.heap.size ≤ i) w1 wr) (fun _ i _ => 32 - (intOf i).toNat)
  case atStart => exact ⟨0, by omega, rfl, by simp [Nat.mod_one], ow2, hg2.mono (fun _ _ e => e.elim)⟩
  case round =>
    obtain ⟨j, hj, rfl, rfl, ho, hgr⟩ := hrel
    by_cases hj4 : j < 32
    · have hjI : (j : Int) < 32 := by omega
      have hKI : (K : Int) ≤ 9664 := by omega
      have tq : ((M : Int) / 2 ^ j).tmod 2 = ((M / 2 ^ j % 2 : Nat) : Int) := by
        rw [Int.tmod_eq_emod_of_nonneg (Int.ediv_nonneg (by omega) (Int.le_of_lt (Int.pow_pos (by decide))))]; push_cast; rfl
      rcases Nat.mod_two_eq_zero_or_one (M / 2 ^ j) with hb | hb
      · rw [hb] at tq
        have hbn := bit_no hb
        have hbu : bur wi K M (j + 1) = bur wi K M j := by rw [bur, if_neg (by omega)]
        go_wp2_with fail
        exact ⟨⟨j + 1, by omega, by go_num, by rw [hbn], by rw [hbu]; exact ho, hgr⟩, by simp [intOf]; omega⟩
      · rw [hb] at tq
        have hby := bit_yes hb
        have hlt : (K + j) / 8 < (bur wi K M j).length := by rw [bur_len]; omega
        obtain ⟨cj, fj⟩ := ho.cell ((bur_len wi K M j).trans p6).symm (j := (K + j) / 8) hlt
        have hyl := getD_lt ho.byte ((K + j) / 8)
        have hbu : bur wi K M (j + 1) = (bur wi K M j).set ((K + j) / 8) ((bur wi K M j).getD ((K + j) / 8) 0 ^^^ 2 ^ ((K + j) % 8)) := by rw [bur, if_pos hb]
        obtain ⟨y, hy⟩ : ∃ y, (bur wi K M j).getD ((K + j) / 8) 0 = y := ⟨_, rfl⟩
        rw [hy] at cj hyl hbu
        have hp8 : 2 ^ ((K + j) % 8) < 256 ∧ (2 : Int) ^ ((K + j) % 8) % 256 = ((2 ^ ((K + j) % 8) : Nat) : Int) := by
          have hm : (K + j) % 8 < 8 := Nat.mod_lt _ (by decide)
          generalize (K + j) % 8 = m at hm
          match m, hm with
          | 0, _ => decide
          | 1, _ => decide
          | 2, _ => decide
          | 3, _ => decide
          | 4, _ => decide
          | 5, _ => decide
          | 6, _ => decide
          | 7, _ => decide
        have ex : bits .xor .u8 (y : Int) (2 ^ ((K + j) % 8) % 256) = ((y ^^^ 2 ^ ((K + j) % 8) : Nat) : Int) := by
          rw [hp8.2]; exact u8_xor_nat _ _ hyl hp8.1
        have hst := ho.stored ((bur_len wi K M j).trans p6).symm ((K + j) / 8) (y ^^^ 2 ^ ((K + j) % 8)) (Nat.xor_lt_two_pow (n := 8) hyl hp8.1)
        have hgs := hgr.trans (Gr.set (S := fun i => w1.heap.size ≤ i) wr ⟨g, (K + j) / 8, none⟩ (.int .u8 ((y ^^^ 2 ^ ((K + j) % 8) : Nat) : Int)) hgb)
        rw [← ex] at hst hgs
        rw [← hbu] at hst
        replace hst := Lib.hid hst
        replace hgs := Lib.hid hgs
        clear ex hp8 hy hlt
        go_wp2_with fail
        exact ⟨⟨j + 1, by omega, by go_num, by simp [hby], hst.out, hgs.out⟩, by simp [intOf]; omega⟩
    · obtain rfl : j = 32 := by omega
      have hgz : G0 W wr := (g0.trans hg1).new hgr hs2
      have hle := bur_le wi K M 32 (by omega)
      rw [Nat.mod_eq_of_lt hM] at hle
      by_cases hM0 : M = 0
      · have hd : decide (M % 2 ^ 32 ≠ 0) = false := by simp [hM0]
        have hbe : bur wi K M 32 = wi := by
          have : ∀ j, bur wi K 0 j = wi := by
            intro j
            induction j with
            | zero => rfl
            | succ j ih => rw [bur, if_neg (by simp), ih]
          rw [hM0, this]
        rw [hbe] at ho
        have hq := fun w v h => (open_c w v wi h)
        rw [hd]
        clear hd hle hbe hM0
        go_wp2_with fail
        refine (hq _ _ ho.sl).mono ?_
        rintro e w5 ⟨hg5, ⟨hn, -⟩ | ⟨-, v5, rfl, ow5⟩⟩
        · exact absurd p1.out hn
        obtain ⟨x5, c5, rfl⟩ := ow5.sv
        go_wp2_with fail
        go_ret
        exact ⟨rfl, ((hgz.trans hg5).trans (Gr.alloc _ _ _)).below (Nat.le_refl _) (fun _ e => e.elim)⟩
      · have hd : decide (M % 2 ^ 32 ≠ 0) = true := by
          rw [Nat.mod_eq_of_lt hM]; simpa using hM0
        have h64 := opn_burst wi (bur wi K M 32) M K ow2.byte ho.byte p1.out (bur_len wi K M 32) hM hM0 (by omega) hle
        have hq := fun w v h => open_no' w v (bur wi K M 32) h 64 h64 (by decide)
        rw [hd]
        clear hd hle hM0 h64
        go_wp2_with fail
        refine (hq _ _ ho.sl).mono ?_
        rintro e w5 ⟨rfl, hg5⟩
        go_wp2_with fail
        go_ret
        exact ⟨rfl, ((hgz.trans hg5).trans (Gr.alloc _ _ _)).below (Nat.le_refl _) (fun _ e => e.elim)⟩

set_option maxRecDepth 20000 in
set_option maxHeartbeats 1000000 in
theorem burst_no (W : World) (f t bo : Int) (v : Value) (l : List Nat) (at_ m : Int) (h : Sl W v l) (c : Int) (hc : chk f t bo l.length = c) (h0 : c ≠ 0) :
    Calls Try.prog 7 #[fr f t bo v, .int .i64 at_, .int .u32 m] W fun e W' => e = .returned (.bool true) ∧ Below W.heap.size W W' := by
  have hp := fun w h => pack_no' w f t bo v l h c hc h0
  have q1 : (c != 0) = true := by simpa using h0
  clear hc h0
  obtain ⟨a, cap, rfl, h1, h2, -⟩ := h.sv
  have g0 : G0 W (W.alloc (.cells #[.int .i64 f, .int .i64 t, .int .u32 bo, .slice a l.length cap] 28)) := Gr.alloc _ _ _
  go_enter Try.func7, Try.ntmps7
  go_wp2_with fail
  refine (alive_c _).mono ?_
  rintro e w1 ⟨rfl, hg1⟩
  have f1 := fr_cells ((hg1.block W.heap.size (by simp) (fun e => e)).trans (heap_alloc_new W _))
  go_wp2_with fail
  refine (hp _ ((h.g0 g0).g0 hg1)).mono ?_
  rintro e w2 ⟨rfl, hg2⟩
  go_wp2_with fail
  go_ret
  exact ⟨rfl, ((g0.trans hg1).trans hg2).below (Nat.le_refl _) (fun _ e => e.elim)⟩

theorem burst_w (W : World) (f t : Int) (bo : Nat) (v : Value) (l : List Nat) (at_ : Int) (M : Nat) (h : Sl W v l) (hbo : bo < 4294967296) (hM : M < 4294967296) (h1 : -9223372036854775808 ≤ at_) (h2 : at_ ≤ 9223372036854775807) :
    Calls Try.prog 7 #[fr f t bo v, .int .i64 at_, .int .u32 (M : Int)] W fun e W' => e = .returned (.bool true) ∧ Below W.heap.size W W' := by
  by_cases hc : chk f t bo l.length = 0
  · obtain ⟨f1, f2, t1, t2, -⟩ := chk_zero hc
    obtain ⟨F, rfl⟩ := Int.eq_ofNat_of_zero_le (show 0 ≤ f by omega)
    obtain ⟨T, rfl⟩ := Int.eq_ofNat_of_zero_le (show 0 ≤ t by omega)
    clear f1 f2 t1 t2
    by_cases ha : 0 ≤ at_
    · have hm1 := Int.tmod_nonneg (8 * (l.length : Int) + 65) ha
      have hm2 := Int.tmod_lt_of_pos at_ (show (0 : Int) < 8 * (l.length : Int) + 65 by omega)
      exact burst_k W F T bo v l at_ M h hbo hc hM ha h2 (at_.tmod (8 * (l.length : Int) + 65)).toNat (Int.toNat_of_nonneg hm1).symm (by clear hc; omega)
    · have hm1 := Int.tmod_nonneg (8 * (l.length : Int) + 65) (show 0 ≤ -(at_ + 1) by clear hc; omega)
      have hm2 := Int.tmod_lt_of_pos (-(at_ + 1)) (show (0 : Int) < 8 * (l.length : Int) + 65 by clear hc; omega)
      exact burst_n W F T bo v l at_ M h hbo hc hM (by clear hc; omega) h1 ((-(at_ + 1)).tmod (8 * (l.length : Int) + 65)).toNat (Int.toNat_of_nonneg hm1).symm (by clear hc; omega)
  · exact burst_no W f t bo v l at_ M h _ rfl hc
end Go.Proofs.Ytnaapgjjombdpaa
