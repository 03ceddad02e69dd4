/-
  FrameApart's walk.
-/
import Derived.Test.YtnaapgjjombdpaaN
namespace Go.Proofs.Ytnaapgjjombdpaa
open Go.RowKit Go.Maps
variable {S S' : Nat → Prop} {W W1 W' : World}

set_option maxRecDepth 20000 in
set_option maxHeartbeats 1000000 in
/-- Behind the place that is reckoned. -/
theorem apart_k (W : World) (v : Value) (l : List Nat) (at_ : Int) (h : Sl W v l) (h4 : 4 ≤ l.length) (hl : l.length ≤ 16384) (Y : Nat) (hY : Y < 4294967296) (hy0 : ((Y : Int) == 0) = false)
    (ha : 0 ≤ at_) (hat : at_ ≤ 9223372036854775807) (k : Nat) (hk : at_.tmod ((l.length : Int) - 3) = k) (hkl : k + 3 < l.length) :
    Calls Try.prog 8 #[v, .int .i64 at_, .int .u32 (Y : Int)] W fun e W' => e = .returned (.bool true) ∧ Below W.heap.size W W' := by
  obtain ⟨a, cap, rfl, h1, h2, -⟩ := h.sv
  have i1 : decide ((l.length : Int) < 4) = false := by simp; omega
  have i2 : decide ((16384 : Int) < (l.length : Int)) = false := by simp; omega
  have i3 : ¬ at_ < 0 := by omega
  have i4 : ((l.length : Int) - 3 == 0) = false := by simp; omega
  have i5 : ¬ (l.length : Int) - 3 = 0 := by omega
  have i6 : (l.length : Int) ≤ 16384 := by omega
  have i7 : (4 : Int) ≤ (l.length : Int) := by omega
  go_enter Try.func8, Try.ntmps8
  go_wp2_with (first
    | (go_at_call 9; refine (alive_c _).mono ?_; rintro e w1 ⟨rfl, hg⟩)
    | (at_builtin; refine wpList_app _ rfl _ _ rfl w1.heap.size _ _ [] l rfl rfl (Ow.lit w1.heap.size w1 [] (by simp) (by simp) (Nat.le_refl _) _ rfl 0 rfl) ((h.g0 hg).g0 (Gr.alloc _ _ _)) (by simp; omega) (by simp) ?_; intro v' w2 hown hgrow hnil))
  have hg2 : Gr (fun i => w1.heap.size ≤ i) w1 w2 := (Gr.alloc _ _ _).trans ((Ow.lit w1.heap.size w1 [] (by simp) (by simp) (Nat.le_refl _) _ rfl 0 rfl).grown hgrow)
  rw [List.nil_append] at hown
  obtain ⟨g, cap2, rfl, hgb⟩ := hown.form (List.ne_nil_of_length_pos (by omega))
  clear hgrow hnil
  go_loopw [8] (fun i wr => ∃ j : Nat, j ≤ 4 ∧ i = .int .i64 (j : Int) ∧ Ow w1.heap.size wr (.slice (some ⟨g, 0, none⟩) l.length cap2) (chg l k Y j) ∧ Gr (fun i => w1.heap.size ≤ i) w1 wr) (fun i _ => 4 - (intOf i).toNat)
  case atStart => exact ⟨0, by omega, rfl, hown, hg2⟩
  case round =>
    obtain ⟨j, hj, rfl, ho, hgr⟩ := hrel
    by_cases hj4 : j < 4
    · obtain ⟨cj, fj⟩ := ho.cell (chg_len l k Y j).symm (j := k + j) (by rw [chg_len]; omega)
      have ec : (Y : Int) / 2 ^ (8 * j) % 256 = ((Y / 2 ^ (8 * j) % 256 : Nat) : Int) := by push_cast; rfl
      have hxl := getD_lt ho.byte (k + j)
      have ex : bits .xor .u8 (((chg l k Y j).getD (k + j) 0 : Nat) : Int) ((Y : Int) / 2 ^ (8 * j) % 256) = (((chg l k Y j).getD (k + j) 0 ^^^ (Y / 2 ^ (8 * j) % 256) : Nat) : Int) := by
        rw [ec]; exact u8_xor_nat _ _ hxl (by omega)
      have hst := ho.stored (chg_len l k Y j).symm (k + j) ((chg l k Y j).getD (k + j) 0 ^^^ (Y / 2 ^ (8 * j) % 256)) (Nat.xor_lt_two_pow (n := 8) (by omega) (by omega))
      have hgs := hgr.trans (Gr.set (S := fun i => w1.heap.size ≤ i) wr ⟨g, k + j, none⟩ (.int .u8 (((chg l k Y j).getD (k + j) 0 ^^^ (Y / 2 ^ (8 * j) % 256) : Nat) : Int)) hgb)
      rw [← ex] at hst hgs
      replace hst := Lib.hid hst
      replace hgs := Lib.hid hgs
      clear ex ec
      rw [List.getD_eq_getElem?_getD] at hst hgs
      go_wp2_with fail
      exact ⟨⟨j + 1, by omega, by go_num, hst.out, hgs.out⟩, by simp [intOf]; omega⟩
    · obtain rfl : j = 4 := by omega
      have hg4 : G0 W wr := hg.new hgr hg.size
      have hle := chg_le l k Y 4 (by omega)
      rw [Nat.mod_eq_of_lt (by omega)] at hle
      have hne := sum_burst l (chg l k Y 4) Y (8 * k) (chg_len l k Y 4) hY (by simp at hy0; omega) (by omega) hle
      have hs1 := fun w hw => sum_c w (.slice a l.length cap) l hw
      have hs2 := fun w hw => sum_c w (.slice (some ⟨g, 0, none⟩) l.length cap2) (chg l k Y 4) hw
      generalize sum l = s1 at *
      generalize sum (chg l k Y 4) = s2 at *
      have hn2 : ((s1 : Int) != (s2 : Int)) = true := by simp; omega
      clear hne hle
      go_wp2_with fail
      refine (hs1 _ (h.g0 hg4)).mono ?_
      rintro e w5 ⟨rfl, rfl⟩
      go_wp2_with fail
      refine (hs2 _ ho.sl).mono ?_
      rintro e w5 ⟨rfl, rfl⟩
      go_wp2_with fail
      go_ret
      exact ⟨rfl, hg4.below (Nat.le_refl _) (fun _ e => e.elim)⟩
set_option maxRecDepth 20000 in
set_option maxHeartbeats 1000000 in
theorem apart_n (W : World) (v : Value) (l : List Nat) (at_ : Int) (h : Sl W v l) (h4 : 4 ≤ l.length) (hl : l.length ≤ 16384) (Y : Nat) (hY : Y < 4294967296) (hy0 : ((Y : Int) == 0) = false)
    (ha : at_ < 0) (hat : -9223372036854775808 ≤ at_) (k : Nat) (hk : (-(at_ + 1)).tmod ((l.length : Int) - 3) = k) (hkl : k + 3 < l.length) :
    Calls Try.prog 8 #[v, .int .i64 at_, .int .u32 (Y : Int)] W fun e W' => e = .returned (.bool true) ∧ Below W.heap.size W W' := by
  obtain ⟨a, cap, rfl, h1, h2, -⟩ := h.sv
  have i1 : decide ((l.length : Int) < 4) = false := by simp; omega
  have i2 : decide ((16384 : Int) < (l.length : Int)) = false := by simp; omega
  have i4 : ((l.length : Int) - 3 == 0) = false := by simp; omega
  have i5 : ¬ (l.length : Int) - 3 = 0 := by omega
  have i6 : (l.length : Int) ≤ 16384 := by omega
  have i7 : (4 : Int) ≤ (l.length : Int) := by omega
  go_enter Try.func8, Try.ntmps8
  go_wp2_with (first
    | (go_at_call 9; refine (alive_c _).mono ?_; rintro e w1 ⟨rfl, hg⟩)
    | (at_builtin; refine wpList_app _ rfl _ _ rfl w1.heap.size _ _ [] l rfl rfl (Ow.lit w1.heap.size w1 [] (by simp) (by simp) (Nat.le_refl _) _ rfl 0 rfl) ((h.g0 hg).g0 (Gr.alloc _ _ _)) (by simp; omega) (by simp) ?_; intro v' w2 hown hgrow hnil))
  have hg2 : Gr (fun i => w1.heap.size ≤ i) w1 w2 := (Gr.alloc _ _ _).trans ((Ow.lit w1.heap.size w1 [] (by simp) (by simp) (Nat.le_refl _) _ rfl 0 rfl).grown hgrow)
  rw [List.nil_append] at hown
  obtain ⟨g, cap2, rfl, hgb⟩ := hown.form (List.ne_nil_of_length_pos (by omega))
  clear hgrow hnil
  go_loopw [8] (fun i wr => ∃ j : Nat, j ≤ 4 ∧ i = .int .i64 (j : Int) ∧ Ow w1.heap.size wr (.slice (some ⟨g, 0, none⟩) l.length cap2) (chg l k Y j) ∧ Gr (fun i => w1.heap.size ≤ i) w1 wr) (fun i _ => 4 - (intOf i).toNat)
  case atStart => exact ⟨0, by omega, rfl, hown, hg2⟩
  case round =>
    obtain ⟨j, hj, rfl, ho, hgr⟩ := hrel
    by_cases hj4 : j < 4
    · obtain ⟨cj, fj⟩ := ho.cell (chg_len l k Y j).symm (j := k + j) (by rw [chg_len]; omega)
      have ec : (Y : Int) / 2 ^ (8 * j) % 256 = ((Y / 2 ^ (8 * j) % 256 : Nat) : Int) := by push_cast; rfl
      have hxl := getD_lt ho.byte (k + j)
      have ex : bits .xor .u8 (((chg l k Y j).getD (k + j) 0 : Nat) : Int) ((Y : Int) / 2 ^ (8 * j) % 256) = (((chg l k Y j).getD (k + j) 0 ^^^ (Y / 2 ^ (8 * j) % 256) : Nat) : Int) := by
        rw [ec]; exact u8_xor_nat _ _ hxl (by omega)
      have hst := ho.stored (chg_len l k Y j).symm (k + j) ((chg l k Y j).getD (k + j) 0 ^^^ (Y / 2 ^ (8 * j) % 256)) (Nat.xor_lt_two_pow (n := 8) (by omega) (by omega))
      have hgs := hgr.trans (Gr.set (S := fun i => w1.heap.size ≤ i) wr ⟨g, k + j, none⟩ (.int .u8 (((chg l k Y j).getD (k + j) 0 ^^^ (Y / 2 ^ (8 * j) % 256) : Nat) : Int)) hgb)
      rw [← ex] at hst hgs
      replace hst := Lib.hid hst
      replace hgs := Lib.hid hgs
      clear ex ec
      rw [List.getD_eq_getElem?_getD] at hst hgs
      go_wp2_with fail
      exact ⟨⟨j + 1, by omega, by go_num, hst.out, hgs.out⟩, by simp [intOf]; omega⟩
    · obtain rfl : j = 4 := by omega
      have hg4 : G0 W wr := hg.new hgr hg.size
      have hle := chg_le l k Y 4 (by omega)
      rw [Nat.mod_eq_of_lt (by omega)] at hle
      have hne := sum_burst l (chg l k Y 4) Y (8 * k) (chg_len l k Y 4) hY (by simp at hy0; omega) (by omega) hle
      have hs1 := fun w hw => sum_c w (.slice a l.length cap) l hw
      have hs2 := fun w hw => sum_c w (.slice (some ⟨g, 0, none⟩) l.length cap2) (chg l k Y 4) hw
      generalize sum l = s1 at *
      generalize sum (chg l k Y 4) = s2 at *
      have hn2 : ((s1 : Int) != (s2 : Int)) = true := by simp; omega
      clear hne hle
      go_wp2_with fail
      refine (hs1 _ (h.g0 hg4)).mono ?_
      rintro e w5 ⟨rfl, rfl⟩
      go_wp2_with fail
      refine (hs2 _ ho.sl).mono ?_
      rintro e w5 ⟨rfl, rfl⟩
      go_wp2_with fail
      go_ret
      exact ⟨rfl, hg4.below (Nat.le_refl _) (fun _ e => e.elim)⟩
set_option maxHeartbeats 1000000 in
theorem apart_no (W : World) (v : Value) (l : List Nat) (at_ : Int) (h : Sl W v l) (Y : Nat) (hs : ¬ (4 ≤ l.length ∧ l.length ≤ 16384 ∧ Y ≠ 0)) :
    Calls Try.prog 8 #[v, .int .i64 at_, .int .u32 (Y : Int)] W fun e W' => e = .returned (.bool true) ∧ Below W.heap.size W W' := by
  obtain ⟨a, cap, rfl, h1, h2, -⟩ := h.sv
  by_cases e1 : l.length < 4
  · have i1 : (l.length : Int) < 4 := by omega
    clear hs
    go_enter Try.func8, Try.ntmps8
    go_wp2_with (go_at_call 9; refine (alive_c _).mono ?_; rintro e w1 ⟨rfl, hg⟩)
    go_ret
    exact ⟨rfl, hg.below (Nat.le_refl _) (fun _ e => e.elim)⟩
  · have i1 : decide ((l.length : Int) < 4) = false := by simp; omega
    by_cases e2 : 16384 < l.length
    · have i2 : (16384 : Int) < (l.length : Int) := by omega
      clear hs
      go_enter Try.func8, Try.ntmps8
      go_wp2_with (go_at_call 9; refine (alive_c _).mono ?_; rintro e w1 ⟨rfl, hg⟩)
      go_ret
      exact ⟨rfl, hg.below (Nat.le_refl _) (fun _ e => e.elim)⟩
    · have i2 : decide ((16384 : Int) < (l.length : Int)) = false := by simp; omega
      obtain rfl : Y = 0 := by
        apply Classical.byContradiction
        intro e
        exact hs ⟨by omega, by omega, e⟩
      clear hs
      go_enter Try.func8, Try.ntmps8
      go_wp2_with (go_at_call 9; refine (alive_c _).mono ?_; rintro e w1 ⟨rfl, hg⟩)
      go_ret
      exact ⟨rfl, hg.below (Nat.le_refl _) (fun _ e => e.elim)⟩
theorem apart_w (W : World) (v : Value) (l : List Nat) (at_ : Int) (h : Sl W v l) (Y : Nat) (hY : Y < 4294967296) (h1 : -9223372036854775808 ≤ at_) (h2 : at_ ≤ 9223372036854775807) :
    Calls Try.prog 8 #[v, .int .i64 at_, .int .u32 (Y : Int)] W fun e W' => e = .returned (.bool true) ∧ Below W.heap.size W W' := by
  by_cases hs : 4 ≤ l.length ∧ l.length ≤ 16384 ∧ Y ≠ 0
  · obtain ⟨h4, hl, hy⟩ := hs
    have hy0 : ((Y : Int) == 0) = false := by simp; omega
    by_cases ha : 0 ≤ at_
    · have hm1 := Int.tmod_nonneg ((l.length : Int) - 3) ha
      have hm2 := Int.tmod_lt_of_pos at_ (show (0 : Int) < (l.length : Int) - 3 by omega)
      exact apart_k W v l at_ h h4 hl Y hY hy0 ha h2 (at_.tmod ((l.length : Int) - 3)).toNat (by omega) (by omega)
    · have hm1 := Int.tmod_nonneg ((l.length : Int) - 3) (show 0 ≤ -(at_ + 1) by omega)
      have hm2 := Int.tmod_lt_of_pos (-(at_ + 1)) (show (0 : Int) < (l.length : Int) - 3 by omega)
      exact apart_n W v l at_ h h4 hl Y hY hy0 (by omega) h1 ((-(at_ + 1)).tmod ((l.length : Int) - 3)).toNat (by omega) (by omega)
  · exact apart_no W v l at_ h Y hs
end Go.Proofs.Ytnaapgjjombdpaa
