import Derived.Test.YtancbidpmbjmnaaC
namespace Go.Proofs.Ytancbidpmbjmnaa
open Go.RowKit
set_option linter.unusedVariables false
theorem zIn : InR 0 := ⟨by decide, by decide⟩
set_option maxHeartbeats 1000000 in
theorem do_add (a : Int) (b : Int) (w : World) (ha : InR a) (hb : InR b) :
    Calls Try.prog 6 #[.int .i64 1, tNum 1 a, tNum 1 b] w fun e w' => e = .returned (.tuple #[tNum (kOf (a + b)) (vOf (a + b)), .int .i64 (eOf (a + b))]) ∧ Kp w w' := by
  have HA : Hid (InR a) := ha
  have HB : Hid (InR b) := hb
  clear ha hb
  go_enter Try.func6, Try.ntmps6
  go_wp2_with fail
  refine (right_yes _ _ (by exact HA.out.1) (by exact HA.out.2)).mono ?_
  rintro e w1 ⟨rfl, hk1⟩
  obtain ⟨hc1, hf1, hz1⟩ := hk1.facts
  have HK1 : Hid _ := hk1
  clear hk1
  have hy1 : w.heap.size + 1 + 1 < w1.heap.size := (by simp at hz1; omega)
  have ha1 : w.heap.size < w1.heap.size := (by omega)
  have hb1 : w.heap.size + 1 < w1.heap.size := (by omega)
  clear hz1
  go_wp2_with fail
  refine (right_yes _ _ (by exact HB.out.1) (by exact HB.out.2)).mono ?_
  rintro e w2 ⟨rfl, hk2⟩
  obtain ⟨hc2, hf2, hz2⟩ := hk2.facts
  have HK2 : Hid _ := hk2
  clear hk2
  have hy2 : w.heap.size + 1 + 1 < w2.heap.size := (by omega)
  have ha2 : w.heap.size < w2.heap.size := (by omega)
  have hb2 : w.heap.size + 1 < w2.heap.size := (by omega)
  clear hz2
  go_wp2_with fail
  refine (doInts_add _ _ _ HA.out HB.out).mono ?_
  rintro e w3 ⟨rfl, hk3⟩
  obtain ⟨hc3, hf3, hz3⟩ := hk3.facts
  have HK3 : Hid _ := hk3
  clear hk3
  have hy3 : w.heap.size + 1 + 1 < w3.heap.size := (by omega)
  have ha3 : w.heap.size < w3.heap.size := (by omega)
  have hb3 : w.heap.size + 1 < w3.heap.size := (by omega)
  clear hz3
  go_wp2
  have hk := ((((((Kp.refl w).alloc _ _).alloc _ _).alloc _ _).trans HK1.out).trans HK2.out).trans HK3.out
  exact bodyPost_ret (v := .tuple #[tNum (kOf (a + b)) (vOf (a + b)), .int .i64 (eOf (a + b))]) (by simp [results, Try.results6, go_sem, hc1, hc2, hc3, hy1, hy2]) rfl ⟨rfl, Kp.set9 hk _ (by omega) _ _ _ _ _ _ _ _ _⟩
set_option maxHeartbeats 1000000 in
theorem do_sub (a : Int) (b : Int) (w : World) (ha : InR a) (hb : InR b) :
    Calls Try.prog 6 #[.int .i64 2, tNum 1 a, tNum 1 b] w fun e w' => e = .returned (.tuple #[tNum (kOf (a - b)) (vOf (a - b)), .int .i64 (eOf (a - b))]) ∧ Kp w w' := by
  have HA : Hid (InR a) := ha
  have HB : Hid (InR b) := hb
  clear ha hb
  go_enter Try.func6, Try.ntmps6
  go_wp2_with fail
  refine (right_yes _ _ (by exact HA.out.1) (by exact HA.out.2)).mono ?_
  rintro e w1 ⟨rfl, hk1⟩
  obtain ⟨hc1, hf1, hz1⟩ := hk1.facts
  have HK1 : Hid _ := hk1
  clear hk1
  have hy1 : w.heap.size + 1 + 1 < w1.heap.size := (by simp at hz1; omega)
  have ha1 : w.heap.size < w1.heap.size := (by omega)
  have hb1 : w.heap.size + 1 < w1.heap.size := (by omega)
  clear hz1
  go_wp2_with fail
  refine (right_yes _ _ (by exact HB.out.1) (by exact HB.out.2)).mono ?_
  rintro e w2 ⟨rfl, hk2⟩
  obtain ⟨hc2, hf2, hz2⟩ := hk2.facts
  have HK2 : Hid _ := hk2
  clear hk2
  have hy2 : w.heap.size + 1 + 1 < w2.heap.size := (by omega)
  have ha2 : w.heap.size < w2.heap.size := (by omega)
  have hb2 : w.heap.size + 1 < w2.heap.size := (by omega)
  clear hz2
  go_wp2_with fail
  refine (doInts_sub _ _ _ HA.out HB.out).mono ?_
  rintro e w3 ⟨rfl, hk3⟩
  obtain ⟨hc3, hf3, hz3⟩ := hk3.facts
  have HK3 : Hid _ := hk3
  clear hk3
  have hy3 : w.heap.size + 1 + 1 < w3.heap.size := (by omega)
  have ha3 : w.heap.size < w3.heap.size := (by omega)
  have hb3 : w.heap.size + 1 < w3.heap.size := (by omega)
  clear hz3
  go_wp2
  have hk := ((((((Kp.refl w).alloc _ _).alloc _ _).alloc _ _).trans HK1.out).trans HK2.out).trans HK3.out
  exact bodyPost_ret (v := .tuple #[tNum (kOf (a - b)) (vOf (a - b)), .int .i64 (eOf (a - b))]) (by simp [results, Try.results6, go_sem, hc1, hc2, hc3, hy1, hy2]) rfl ⟨rfl, Kp.set9 hk _ (by omega) _ _ _ _ _ _ _ _ _⟩
set_option maxHeartbeats 1000000 in
theorem do_mul (a : Int) (b : Int) (w : World) (ha : InR a) (hb : InR b) :
    Calls Try.prog 6 #[.int .i64 3, tNum 1 a, tNum 1 b] w fun e w' => e = .returned (.tuple #[tNum (kOf (a * b)) (vOf (a * b)), .int .i64 (eOf (a * b))]) ∧ Kp w w' := by
  have HA : Hid (InR a) := ha
  have HB : Hid (InR b) := hb
  clear ha hb
  go_enter Try.func6, Try.ntmps6
  go_wp2_with fail
  refine (right_yes _ _ (by exact HA.out.1) (by exact HA.out.2)).mono ?_
  rintro e w1 ⟨rfl, hk1⟩
  obtain ⟨hc1, hf1, hz1⟩ := hk1.facts
  have HK1 : Hid _ := hk1
  clear hk1
  have hy1 : w.heap.size + 1 + 1 < w1.heap.size := (by simp at hz1; omega)
  have ha1 : w.heap.size < w1.heap.size := (by omega)
  have hb1 : w.heap.size + 1 < w1.heap.size := (by omega)
  clear hz1
  go_wp2_with fail
  refine (right_yes _ _ (by exact HB.out.1) (by exact HB.out.2)).mono ?_
  rintro e w2 ⟨rfl, hk2⟩
  obtain ⟨hc2, hf2, hz2⟩ := hk2.facts
  have HK2 : Hid _ := hk2
  clear hk2
  have hy2 : w.heap.size + 1 + 1 < w2.heap.size := (by omega)
  have ha2 : w.heap.size < w2.heap.size := (by omega)
  have hb2 : w.heap.size + 1 < w2.heap.size := (by omega)
  clear hz2
  go_wp2_with fail
  refine (doInts_mul _ _ _ HA.out HB.out).mono ?_
  rintro e w3 ⟨rfl, hk3⟩
  obtain ⟨hc3, hf3, hz3⟩ := hk3.facts
  have HK3 : Hid _ := hk3
  clear hk3
  have hy3 : w.heap.size + 1 + 1 < w3.heap.size := (by omega)
  have ha3 : w.heap.size < w3.heap.size := (by omega)
  have hb3 : w.heap.size + 1 < w3.heap.size := (by omega)
  clear hz3
  go_wp2
  have hk := ((((((Kp.refl w).alloc _ _).alloc _ _).alloc _ _).trans HK1.out).trans HK2.out).trans HK3.out
  exact bodyPost_ret (v := .tuple #[tNum (kOf (a * b)) (vOf (a * b)), .int .i64 (eOf (a * b))]) (by simp [results, Try.results6, go_sem, hc1, hc2, hc3, hy1, hy2]) rfl ⟨rfl, Kp.set9 hk _ (by omega) _ _ _ _ _ _ _ _ _⟩
set_option maxHeartbeats 1000000 in
theorem do_div (a : Int) (b : Int) (w : World) (ha : InR a) (hb : InR b) (h0 : ¬ b = 0) :
    Calls Try.prog 6 #[.int .i64 4, tNum 1 a, tNum 1 b] w fun e w' => e = .returned (.tuple #[tNum (kOf (a.tdiv b)) (vOf (a.tdiv b)), .int .i64 (eOf (a.tdiv b))]) ∧ Kp w w' := by
  have HA : Hid (InR a) := ha
  have HB : Hid (InR b) := hb
  clear ha hb
  go_enter Try.func6, Try.ntmps6
  go_wp2_with fail
  refine (right_yes _ _ (by exact HA.out.1) (by exact HA.out.2)).mono ?_
  rintro e w1 ⟨rfl, hk1⟩
  obtain ⟨hc1, hf1, hz1⟩ := hk1.facts
  have HK1 : Hid _ := hk1
  clear hk1
  have hy1 : w.heap.size + 1 + 1 < w1.heap.size := (by simp at hz1; omega)
  have ha1 : w.heap.size < w1.heap.size := (by omega)
  have hb1 : w.heap.size + 1 < w1.heap.size := (by omega)
  clear hz1
  go_wp2_with fail
  refine (right_yes _ _ (by exact HB.out.1) (by exact HB.out.2)).mono ?_
  rintro e w2 ⟨rfl, hk2⟩
  obtain ⟨hc2, hf2, hz2⟩ := hk2.facts
  have HK2 : Hid _ := hk2
  clear hk2
  have hy2 : w.heap.size + 1 + 1 < w2.heap.size := (by omega)
  have ha2 : w.heap.size < w2.heap.size := (by omega)
  have hb2 : w.heap.size + 1 < w2.heap.size := (by omega)
  clear hz2
  go_wp2_with fail
  refine (doInts_div _ _ _ HA.out HB.out h0).mono ?_
  rintro e w3 ⟨rfl, hk3⟩
  obtain ⟨hc3, hf3, hz3⟩ := hk3.facts
  have HK3 : Hid _ := hk3
  clear hk3
  have hy3 : w.heap.size + 1 + 1 < w3.heap.size := (by omega)
  have ha3 : w.heap.size < w3.heap.size := (by omega)
  have hb3 : w.heap.size + 1 < w3.heap.size := (by omega)
  clear hz3
  go_wp2
  have hk := ((((((Kp.refl w).alloc _ _).alloc _ _).alloc _ _).trans HK1.out).trans HK2.out).trans HK3.out
  exact bodyPost_ret (v := .tuple #[tNum (kOf (a.tdiv b)) (vOf (a.tdiv b)), .int .i64 (eOf (a.tdiv b))]) (by simp [results, Try.results6, go_sem, hc1, hc2, hc3, hy1, hy2]) rfl ⟨rfl, Kp.set9 hk _ (by omega) _ _ _ _ _ _ _ _ _⟩
set_option maxHeartbeats 1000000 in
theorem do_rem (a : Int) (b : Int) (w : World) (ha : InR a) (hb : InR b) (h0 : ¬ b = 0) :
    Calls Try.prog 6 #[.int .i64 5, tNum 1 a, tNum 1 b] w fun e w' => e = .returned (.tuple #[tNum (kOf (a.tmod b)) (vOf (a.tmod b)), .int .i64 (eOf (a.tmod b))]) ∧ Kp w w' := by
  have HA : Hid (InR a) := ha
  have HB : Hid (InR b) := hb
  clear ha hb
  go_enter Try.func6, Try.ntmps6
  go_wp2_with fail
  refine (right_yes _ _ (by exact HA.out.1) (by exact HA.out.2)).mono ?_
  rintro e w1 ⟨rfl, hk1⟩
  obtain ⟨hc1, hf1, hz1⟩ := hk1.facts
  have HK1 : Hid _ := hk1
  clear hk1
  have hy1 : w.heap.size + 1 + 1 < w1.heap.size := (by simp at hz1; omega)
  have ha1 : w.heap.size < w1.heap.size := (by omega)
  have hb1 : w.heap.size + 1 < w1.heap.size := (by omega)
  clear hz1
  go_wp2_with fail
  refine (right_yes _ _ (by exact HB.out.1) (by exact HB.out.2)).mono ?_
  rintro e w2 ⟨rfl, hk2⟩
  obtain ⟨hc2, hf2, hz2⟩ := hk2.facts
  have HK2 : Hid _ := hk2
  clear hk2
  have hy2 : w.heap.size + 1 + 1 < w2.heap.size := (by omega)
  have ha2 : w.heap.size < w2.heap.size := (by omega)
  have hb2 : w.heap.size + 1 < w2.heap.size := (by omega)
  clear hz2
  go_wp2_with fail
  refine (doInts_rem _ _ _ HA.out HB.out h0).mono ?_
  rintro e w3 ⟨rfl, hk3⟩
  obtain ⟨hc3, hf3, hz3⟩ := hk3.facts
  have HK3 : Hid _ := hk3
  clear hk3
  have hy3 : w.heap.size + 1 + 1 < w3.heap.size := (by omega)
  have ha3 : w.heap.size < w3.heap.size := (by omega)
  have hb3 : w.heap.size + 1 < w3.heap.size := (by omega)
  clear hz3
  go_wp2
  have hk := ((((((Kp.refl w).alloc _ _).alloc _ _).alloc _ _).trans HK1.out).trans HK2.out).trans HK3.out
  exact bodyPost_ret (v := .tuple #[tNum (kOf (a.tmod b)) (vOf (a.tmod b)), .int .i64 (eOf (a.tmod b))]) (by simp [results, Try.results6, go_sem, hc1, hc2, hc3, hy1, hy2]) rfl ⟨rfl, Kp.set9 hk _ (by omega) _ _ _ _ _ _ _ _ _⟩
set_option maxHeartbeats 1000000 in
theorem do_zero4 (a : Int) (w : World) (ha : InR a) :
    Calls Try.prog 6 #[.int .i64 4, tNum 1 a, tNum 1 0] w fun e w' => e = .returned (.tuple #[tNum 0 0, .int .i64 11]) ∧ Kp w w' := by
  have HA : Hid (InR a) := ha
  clear ha
  go_enter Try.func6, Try.ntmps6
  go_wp2_with fail
  refine (right_yes _ _ (by exact HA.out.1) (by exact HA.out.2)).mono ?_
  rintro e w1 ⟨rfl, hk1⟩
  obtain ⟨hc1, hf1, hz1⟩ := hk1.facts
  have HK1 : Hid _ := hk1
  clear hk1
  have hy1 : w.heap.size + 1 + 1 < w1.heap.size := (by simp at hz1; omega)
  have ha1 : w.heap.size < w1.heap.size := (by omega)
  have hb1 : w.heap.size + 1 < w1.heap.size := (by omega)
  clear hz1
  go_wp2_with fail
  refine (right_yes _ _ (by exact zIn.1) (by exact zIn.2)).mono ?_
  rintro e w2 ⟨rfl, hk2⟩
  obtain ⟨hc2, hf2, hz2⟩ := hk2.facts
  have HK2 : Hid _ := hk2
  clear hk2
  have hy2 : w.heap.size + 1 + 1 < w2.heap.size := (by omega)
  have ha2 : w.heap.size < w2.heap.size := (by omega)
  have hb2 : w.heap.size + 1 < w2.heap.size := (by omega)
  clear hz2
  go_wp2_with fail
  refine (doInts_zero4 _ _).mono ?_
  rintro e w3 ⟨rfl, hk3⟩
  obtain ⟨hc3, hf3, hz3⟩ := hk3.facts
  have HK3 : Hid _ := hk3
  clear hk3
  have hy3 : w.heap.size + 1 + 1 < w3.heap.size := (by omega)
  have ha3 : w.heap.size < w3.heap.size := (by omega)
  have hb3 : w.heap.size + 1 < w3.heap.size := (by omega)
  clear hz3
  go_wp2
  have hk := ((((((Kp.refl w).alloc _ _).alloc _ _).alloc _ _).trans HK1.out).trans HK2.out).trans HK3.out
  exact bodyPost_ret (v := .tuple #[tNum 0 0, .int .i64 11]) (by simp [results, Try.results6, go_sem, hc1, hc2, hc3, hy1, hy2]) rfl ⟨rfl, Kp.set9 hk _ (by omega) _ _ _ _ _ _ _ _ _⟩
set_option maxHeartbeats 1000000 in
theorem do_zero5 (a : Int) (w : World) (ha : InR a) :
    Calls Try.prog 6 #[.int .i64 5, tNum 1 a, tNum 1 0] w fun e w' => e = .returned (.tuple #[tNum 0 0, .int .i64 11]) ∧ Kp w w' := by
  have HA : Hid (InR a) := ha
  clear ha
  go_enter Try.func6, Try.ntmps6
  go_wp2_with fail
  refine (right_yes _ _ (by exact HA.out.1) (by exact HA.out.2)).mono ?_
  rintro e w1 ⟨rfl, hk1⟩
  obtain ⟨hc1, hf1, hz1⟩ := hk1.facts
  have HK1 : Hid _ := hk1
  clear hk1
  have hy1 : w.heap.size + 1 + 1 < w1.heap.size := (by simp at hz1; omega)
  have ha1 : w.heap.size < w1.heap.size := (by omega)
  have hb1 : w.heap.size + 1 < w1.heap.size := (by omega)
  clear hz1
  go_wp2_with fail
  refine (right_yes _ _ (by exact zIn.1) (by exact zIn.2)).mono ?_
  rintro e w2 ⟨rfl, hk2⟩
  obtain ⟨hc2, hf2, hz2⟩ := hk2.facts
  have HK2 : Hid _ := hk2
  clear hk2
  have hy2 : w.heap.size + 1 + 1 < w2.heap.size := (by omega)
  have ha2 : w.heap.size < w2.heap.size := (by omega)
  have hb2 : w.heap.size + 1 < w2.heap.size := (by omega)
  clear hz2
  go_wp2_with fail
  refine (doInts_zero5 _ _).mono ?_
  rintro e w3 ⟨rfl, hk3⟩
  obtain ⟨hc3, hf3, hz3⟩ := hk3.facts
  have HK3 : Hid _ := hk3
  clear hk3
  have hy3 : w.heap.size + 1 + 1 < w3.heap.size := (by omega)
  have ha3 : w.heap.size < w3.heap.size := (by omega)
  have hb3 : w.heap.size + 1 < w3.heap.size := (by omega)
  clear hz3
  go_wp2
  have hk := ((((((Kp.refl w).alloc _ _).alloc _ _).alloc _ _).trans HK1.out).trans HK2.out).trans HK3.out
  exact bodyPost_ret (v := .tuple #[tNum 0 0, .int .i64 11]) (by simp [results, Try.results6, go_sem, hc1, hc2, hc3, hy1, hy2]) rfl ⟨rfl, Kp.set9 hk _ (by omega) _ _ _ _ _ _ _ _ _⟩
end Go.Proofs.Ytancbidpmbjmnaa
