import Derived.Test.YtancbidpmbjmnaaF
namespace Go.Proofs.Ytancbidpmbjmnaa
open Go.RowKit
set_option linter.unusedVariables false
set_option maxHeartbeats 1000000 in
theorem do_z (w : World) :
    Calls Try.prog 6 #[.int .i64 4, tNum 1 1, tCx 0 0] w fun e w' => e = .returned (.tuple #[tNum 0 0, .int .i64 11]) ∧ Kp w w' := by
  go_enter Try.func6, Try.ntmps6
  go_wp2_with fail
  refine (right_yes _ _ (by decide) (by decide)).mono ?_
  rintro e w1 ⟨rfl, hk1⟩
  obtain ⟨hc1, hf1, hz1⟩ := hk1.facts
  have HK1 : Hid _ := hk1
  clear hk1
  have hy1 : w.heap.size + 1 + 1 < w1.heap.size := (by simp at hz1; omega)
  have ha1 : w.heap.size < w1.heap.size := (by omega)
  have hb1 : w.heap.size + 1 < w1.heap.size := (by omega)
  clear hz1
  go_wp2_with fail
  refine (right_z _).mono ?_
  rintro e w2 ⟨rfl, hk2⟩
  obtain ⟨hc2, hf2, hz2⟩ := hk2.facts
  have HK2 : Hid _ := hk2
  clear hk2
  have hy2 : w.heap.size + 1 + 1 < w2.heap.size := (by omega)
  have ha2 : w.heap.size < w2.heap.size := (by omega)
  have hb2 : w.heap.size + 1 < w2.heap.size := (by omega)
  clear hz2
  go_wp2_with fail
  have HK : Hid (Kp w w2) := (((((Kp.refl w).alloc _ _).alloc _ _).alloc _ _).trans HK1.out).trans HK2.out
  have hx0 : ∀ o, w2.cell? ⟨w.heap.size, o, none⟩ = #[.int .i64 1, .int .i64 1, .complex .f64 0 0, .string { data := #[] }, .int .i64 0, .int .u32 0, .int .u64 0, .slice none 0 0, .slice none 0 0][o]? := fun o => by rw [hc2 _ _ ha1, hc1 _ _ (by simp; omega)]; simp [go_sem]
  have hx1 : ∀ o, w2.cell? ⟨w.heap.size + 1, o, none⟩ = #[.int .i64 2, .int .i64 0, .complex .f64 0 0, .string { data := #[] }, .int .i64 0, .int .u32 0, .int .u64 0, .slice none 0 0, .slice none 0 0][o]? := fun o => by rw [hc2 _ _ hb1, hc1 _ _ (by simp)]; simp [go_sem]
  have hx2 : ∀ o, w2.cell? ⟨w.heap.size + 1 + 1, o, none⟩ = #[.int .i64 0, .int .i64 0, .complex .f64 0 0, .string { data := #[] }, .int .i64 0, .int .u32 0, .int .u64 0, .slice none 0 0, .slice none 0 0][o]? := fun o => by rw [hc2 _ _ hy1, hc1 _ _ (by simp)]; simp [go_sem]
  have hxf : ∀ o, w2.frozen? ⟨w.heap.size + 1 + 1, o, none⟩ = false := fun o => by rw [hf2, hf1]; simp [go_sem]
  clear hc1 hc2 hf1 hf2 HK1 HK2 hy1 ha1 hb1
  go_region_with (first | (go_at_call_of 11 (Value.int IntKind.i64 1); refine (as_1 _).mono ?_; rintro e w3 ⟨rfl, hk3⟩; replace HK : Hid (Kp w w3) := (by first | exact HK.out.trans hk3 | exact HK.out.drew.trans hk3); replace hx0 := hk3.carry ha2 hx0; replace hx1 := hk3.carry hb2 hx1; replace hx2 := hk3.carry hy2 hx2; replace hxf : ∀ o, w3.frozen? ⟨w.heap.size + 1 + 1, o, none⟩ = false := (fun o => (hk3.frozen _).trans (hxf o)); replace ha2 := Nat.lt_of_lt_of_le ha2 hk3.size; replace hb2 := Nat.lt_of_lt_of_le hb2 hk3.size; replace hy2 := Nat.lt_of_lt_of_le hy2 hk3.size; clear hk3) | (go_at_call_of 11 (Value.int IntKind.i64 2); refine (as_z _).mono ?_; rintro e w5 ⟨rfl, hk5⟩; replace HK : Hid (Kp w w5) := (by first | exact HK.out.trans hk5 | exact HK.out.drew.trans hk5); replace hx0 := hk5.carry ha2 hx0; replace hx1 := hk5.carry hb2 hx1; replace hx2 := hk5.carry hy2 hx2; replace hxf : ∀ o, w5.frozen? ⟨w.heap.size + 1 + 1, o, none⟩ = false := (fun o => (hk5.frozen _).trans (hxf o)); replace ha2 := Nat.lt_of_lt_of_le ha2 hk5.size; replace hb2 := Nat.lt_of_lt_of_le hb2 hk5.size; replace hy2 := Nat.lt_of_lt_of_le hy2 hk5.size; clear hk5) | (go_at_call 10; refine (doCx_z _ _ _).mono ?_; rintro e w4 ⟨rfl, hk4⟩; replace HK : Hid (Kp w w4) := (by first | exact HK.out.trans hk4 | exact HK.out.drew.trans hk4); replace hx0 := hk4.carry ha2 hx0; replace hx1 := hk4.carry hb2 hx1; replace hx2 := hk4.carry hy2 hx2; replace hxf : ∀ o, w4.frozen? ⟨w.heap.size + 1 + 1, o, none⟩ = false := (fun o => (hk4.frozen _).trans (hxf o)); replace ha2 := Nat.lt_of_lt_of_le ha2 hk4.size; replace hb2 := Nat.lt_of_lt_of_le hb2 hk4.size; replace hy2 := Nat.lt_of_lt_of_le hy2 hk4.size; clear hk4))
  all_goals
    go_wp2
    exact bodyPost_ret (v := .tuple #[tNum 0 0, .int .i64 11]) (by simp [results, Try.results6, go_sem, hx2]) rfl ⟨rfl, Kp.set9 HK.out _ (by omega) _ _ _ _ _ _ _ _ _⟩
end Go.Proofs.Ytancbidpmbjmnaa
